/-
  Texts put together: Xm7, WpK7, WpK8. No statement is proved here.
-/
import Derived.Test.YtkpfppiedadmbaaDoorWn19
import Derived.Test.YtkpfppiedadmbaaDoorWn17
import Derived.Test.YtkpfppiedadmbaaDoorWn18

/-
  The landed package xmss: the root of a tree's sums, and the way of a leaf. No statement is proved here.
-/
namespace Go.Proofs.YtkpfppiedadmbaaDoor.S16
set_option linter.unusedSimpArgs false
set_option linter.unusedVariables false
set_option maxRecDepth 4096
open Go.RowKit S15

/-- The sums of a tree, height by height. -/
abbrev hE (sec sd : List UInt8) (ly tr g : Nat) : El := rowE (sumT sec sd ly tr g)
abbrev treeE (sec sd : List UInt8) (ly tr h : Nat) : El := slE (fun g => 2 ^ (h - g)) (hE sec sd ly tr)
theorem treeE_fp (sec sd : List UInt8) (ly tr h : Nat) : FP (treeE sec sd ly tr h) := slE_fp fun g => rowE_fp _
/-- A row of such. -/
theorem row_get {sec sd : List UInt8} {ly tr g n c : Nat} {A : Option Addr} {w : World} {S : Nat → Prop} (h : Sl (hE sec sd ly tr g) w S A n c) {i : Nat} (hi : i < n) :
    ∃ b off A' c', A = some ⟨b, off, none⟩ ∧ b < w.heap.size ∧ S b ∧ w.cell? ⟨b, off + i, none⟩ = some (.slice A' 32 c') ∧ Rd w A' 32 c' (sumT sec sd ly tr g i) ∧ ∀ a, A' = some a → S a.block := by
  obtain ⟨b, off, rfl, hb, hS, hc⟩ := h.at_ (by omega)
  obtain ⟨u, h1, A', n', c', rfl, h2, h3⟩ := hc i hi
  obtain rfl : n' = 32 := h2.len.symm.trans (sum_32 ..)
  exact ⟨b, off, A', c', rfl, hb, hS, h1, h2, fun a ha => h3 a (by omega) ha⟩
theorem tree_get {sec sd : List UInt8} {ly tr h n c : Nat} {A : Option Addr} {w : World} {S : Nat → Prop} (ht : Sl (treeE sec sd ly tr h) w S A n c) {g : Nat} (hg : g < n) :
    ∃ b off A' c', A = some ⟨b, off, none⟩ ∧ b < w.heap.size ∧ S b ∧ w.cell? ⟨b, off + g, none⟩ = some (.slice A' (2 ^ (h - g)) c') ∧ Sl (hE sec sd ly tr g) w S A' (2 ^ (h - g)) c' := by
  obtain ⟨b, off, rfl, hb, hS, hc⟩ := ht.at_ (by omega)
  obtain ⟨u, h1, A', c', rfl, h2⟩ := hc g hg
  exact ⟨b, off, A', c', rfl, hb, hS, h1, h2⟩
set_option maxHeartbeats 1000000 in
theorem root_any (sec sd : List UInt8) (ly tr h : Nat) (A : Option Addr) (c : Nat) (S : Nat → Prop) (w : World) (ht : Sl (treeE sec sd ly tr h) w S A (h + 1) c) :
    Calls Tryd.prog 31 #[.slice A (h + 1) c] w fun e w' => (∃ A' c', e = .returned (.slice A' 32 c') ∧ Rd w A' 32 c' (sumT sec sd ly tr h 0) ∧ ∀ a, A' = some a → S a.block) ∧ w = w' := by
  obtain ⟨b, off, A1, c1, rfl, hb, hS, h1, h2⟩ := tree_get ht (g := h) (by omega)
  rw [Nat.sub_self, Nat.pow_zero] at h1 h2
  obtain ⟨b2, off2, A2, c2, rfl, hb2, hS2, h3, h4, h5⟩ := row_get h2 (i := 0) (by omega)
  rw [Nat.add_zero] at h3
  have hm := ht.max
  have hcp := ht.cap
  unfold maxLen at hm
  obtain ⟨n, hn⟩ : ∃ n, n = h + 1 := ⟨_, rfl⟩
  rw [← hn] at hcp ⊢
  have t1 : (n : Int) - 1 = (h : Int) := by omega
  have t2 : (h : Int) < (n : Int) := by omega
  have t3 : h < n := by omega
  have H4 := Lib.hid h4
  have H5 := Lib.hid h5
  clear ht h2 h4 h5 hn hb hb2 hS hS2
  go_enter Tryd.func31, Tryd.ntmps31
  go_wp2
  go_ret
  exact ⟨⟨A2, c2, rfl, H4.out, H5.out⟩, rfl⟩
theorem xor_one (p : Nat) : p ^^^ 1 = sib p := by
  have h1 : (p ^^^ 1) / 2 = p / 2 := by
    have := Nat.shiftRight_xor_distrib (a := p) (b := 1) (i := 1)
    simpa [Nat.shiftRight_succ] using this
  have h2 : (p ^^^ 1) % 2 = (p + 1) % 2 := by
    have h := Nat.testBit_xor p 1 0
    simp only [Nat.testBit_zero] at h
    by_cases h1 : p % 2 = 1 <;> by_cases h2 : (p ^^^ 1) % 2 = 1 <;> simp [h1, h2] at h <;> omega
  unfold sib
  split <;> omega
theorem sib_lt {p n : Nat} (h : p < 2 ^ (n + 1)) : sib p < 2 ^ (n + 1) := by
  rw [Nat.pow_succ] at h ⊢
  unfold sib
  split <;> omega
theorem u32_xor_one (p : Nat) (h : p < 4294967296) : bits .xor .u32 (p : Int) 1 = (sib p : Int) := by
  have := u32_xor_nat p 1 h (by omega)
  rw [xor_one] at this
  exact this
/-- The rows of a way, as elements. -/
abbrev wayE (sec sd : List UInt8) (ly tr q : Nat) : El := rowE fun g => sumT sec sd ly tr g (sib (q / 2 ^ g))
theorem get_some0 {vs : List Value} {q n : Nat} (h : vs.length = n) (hq : q < n) : ∃ v, vs[q]? = some v := ⟨_, List.getElem?_eq_getElem (by omega)⟩
set_option maxHeartbeats 2000000 in
/-- The function value that tells a tree's sum. -/
theorem way1_any (sec sd : List UInt8) (ly tr h g i bt : Nat) (hg : g < h + 1) (hi : i < 2 ^ (h - g)) (A : Option Addr) (c : Nat) (S : Nat → Prop) (w : World) (hb : Bk w bt 58 #[.slice A (h + 1) c]) (ht : Sl (treeE sec sd ly tr h) w S A (h + 1) c) :
    Calls Tryd.prog 52 #[.int .i64 (g : Int), .int .u32 (i : Int), .pointer (some ⟨bt, 0, none⟩)] w fun e w' => (∃ A' c', e = .returned (.slice A' 32 c') ∧ Rd w' A' 32 c' (sumT sec sd ly tr g i) ∧ ∀ a, A' = some a → S a.block) ∧ w = w' := by
  have hm := ht.max
  obtain ⟨b, off, A1, c1, rfl, hbk, hS, h1, h2⟩ := tree_get ht (g := g) (by omega)
  obtain ⟨b2, off2, A2, c2, rfl, hb2, hS2, h3, h4, h5⟩ := row_get h2 hi
  have k0 := hb.cell 0
  obtain ⟨n, hn⟩ : ∃ n, n = h + 1 := ⟨_, rfl⟩
  rw [← hn] at k0
  obtain ⟨m, hm2⟩ : ∃ m, m = 2 ^ (h - g) := ⟨_, rfl⟩
  rw [← hm2] at h1 hi
  simp at k0
  have t1 : (g : Int) < (n : Int) := by omega
  have t2 : (i : Int) < (m : Int) := by omega
  have t3 : g < n := by omega
  have H4 := Lib.hid h4
  have H5 := Lib.hid h5
  clear ht h2 h4 h5 hn hb hb2 hS hS2 hbk hm2 hm
  go_enter Tryd.func52, Tryd.ntmps52
  go_wp2
  go_ret
  exact ⟨⟨A2, c2, rfl, H4.out, H5.out⟩, rfl⟩
set_option maxHeartbeats 4000000 in
theorem cway_any (sec sd : List UInt8) (ly tr h q bt : Nat) (hq : q < 2 ^ h) (hh : h ≤ 20) (A : Option Addr) (c : Nat) (S : Nat → Prop) (w : World) (hb : Bk w bt 58 #[.slice A (h + 1) c]) (ht : Sl (treeE sec sd ly tr h) w S A (h + 1) c) :
    Calls Tryd.prog 51 #[.int .u32 (q : Int), .int .i64 (h : Int), .func (.func 52) #[] #[.pointer (some ⟨bt, 0, none⟩)]] w fun e w' => ∃ A' c' vs, e = .returned (.slice A' h c') ∧ w'.ownsRow w.heap.size 29 1 (.slice A' h c') h vs ∧ (∀ j, j < h → ∃ u, vs[j]? = some u ∧ wayE sec sd ly tr q w' S j u) ∧ Below w.heap.size w w' := by
  obtain ⟨i0, hi, hz0, hz1, hz2⟩ := info_parts Tryd.infoRows
  have HI := Lib.hid hi
  have HT := Lib.hid ht
  have HB := Lib.hid hb
  have HQ := Lib.hid hq
  have hq2 : q < 4294967296 := Nat.lt_of_lt_of_le hq (Nat.le_trans (Nat.pow_le_pow_right (by omega) hh) (by decide))
  obtain ⟨L0, hL0⟩ : ∃ L0, w.heap.size = L0 := ⟨_, rfl⟩
  have e0 : wrap64 (h : Int) = (h : Int) := by unfold wrap64; omega
  clear ht hb hq hi
  go_enter Tryd.func51, Tryd.ntmps51
  go_wp2_with (at_make; refine wpList_make_full _ rfl _ _ 65 rfl w.heap.size 29 i0 (.slice none 0 0) 1 Tryd.underlying65 HI.out hz0 hz1 _ _ _ _ h rfl rfl rfl rfl ?b2 ?b3 (Nat.le_refl _) ?_)
  case b2 => rw [hz2]; omega
  case b3 => unfold maxLen; omega
  intro w1 o1 g1
  have hn1 : Below w.heap.size w w1 := (Below.refl _ _).grown g1 (Nat.le_refl _) (fun k h => by cases h)
  obtain ⟨vs0, hv0⟩ : ∃ vs0 : List Value, w1.ownsRow L0 29 1 (.slice (some ⟨L0, 0, none⟩) h h) h vs0 := ⟨_, o1⟩
  have O1 := Lib.hid hv0
  have N1 := Lib.hid hn1
  have HL0 := Lib.hid hL0
  clear o1 g1 hv0 hn1 hL0
  go_wp2
  go_loopw [13] (fun i wr => ∃ (j : Nat) (vs : List Value), j ≤ h ∧ i = .int .i64 (j : Int) ∧ wr.ownsRow L0 29 1 (.slice (some ⟨L0, 0, none⟩) h h) h vs ∧ (∀ k, k < j → ∃ u, vs[k]? = some u ∧ wayE sec sd ly tr q w (fun b => S b ∧ b < L0) k u) ∧ Below w.heap.size w wr)
    (fun i _ => h - (intOf i).toNat)
  case atStart => exact ⟨0, vs0, Nat.zero_le _, rfl, O1.out, fun k hk => absurd hk (by omega), N1.out⟩
  case round =>
    obtain ⟨j, vs, hj, rfl, hown, hel, hbel⟩ := hrel
    by_cases hlt : j < h
    · have hi1 : sib (q / 2 ^ j) < 2 ^ (h - j) := by
        obtain ⟨m, hm⟩ : ∃ m, h - j = m + 1 := ⟨h - j - 1, by omega⟩
        rw [hm]
        refine sib_lt ?_
        rw [← hm]
        refine (Nat.div_lt_iff_lt_mul (Nat.two_pow_pos j)).2 ?_
        rw [← Nat.pow_add, show h - j + j = h by omega]
        exact HQ.out
      have W1 := Lib.hid (way1_any sec sd ly tr h j (sib (q / 2 ^ j)) bt (by omega) hi1 A c (fun b => S b ∧ b < L0) wr (HB.out.below hbel HB.out.lt) (by
        have := ((HT.out.lt (treeE_fp _ _ _ _ _)).below (treeE_fp _ _ _ _ _) hbel)
        rw [HL0.out] at this
        exact this))
      obtain ⟨p, hp⟩ : ∃ p : Nat, p = q / 2 ^ j := ⟨_, rfl⟩
      have hp2 : p ≤ q := by rw [hp]; exact Nat.div_le_self _ _
      have hx := u32_xor_one p (by omega)
      rw [← hp] at W1
      obtain ⟨s, hs⟩ : ∃ s, s = sib p := ⟨_, rfl⟩
      rw [← hs] at W1 hx
      have t0 : (j : Int) < (h : Int) := by omega
      have e3 : (q : Int) / 2 ^ j = (p : Int) := by rw [hp]; simp
      have HEW := Lib.hid (show ∀ (X : World) (A' : Option Addr) (c' : Nat), X = wr → Rd X A' 32 c' (sumT sec sd ly tr j s) → (∀ a, A' = some a → S a.block ∧ a.block < L0) → wayE sec sd ly tr q w (fun b => S b ∧ b < L0) j (.slice A' 32 c') from by
        rintro X A' c' rfl hr hS
        refine ⟨A', 32, c', rfl, ?_, fun a _ ha => hS a ha⟩
        show Rd w A' 32 c' (sumT sec sd ly tr j (sib (q / 2 ^ j)))
        rw [← hp, ← hs]
        refine ⟨hr.len, hr.cap, hr.max, hr.nil, fun h0 => ?_⟩
        obtain ⟨b, off, e, hb, hc⟩ := hr.at_ h0
        obtain ⟨_, hlt2⟩ := hS _ e
        simp only at hlt2
        have hbw : b < w.heap.size := by rw [HL0.out]; exact hlt2
        exact ⟨b, off, e, hbw, fun k hk => (hbel.cell (p := ⟨b, off + k, none⟩) hbw).symm.trans (hc k hk)⟩)
      have HO := Lib.hid hown
      have HE := Lib.hid hel
      have HBL := Lib.hid hbel
      have hc := hown.cellAt j (by omega)
      have hf := hown.frozenAt j
      have hst := hown.stored j
      obtain ⟨v2, hv2⟩ := get_some0 (vs := vs) (n := h) (by have := hown.1; omega) hlt
      rw [hv2] at hc
      have HST := Lib.hid hst
      have HVL := Lib.hid (show vs.length = h by have := hown.1; omega)
      clear hown hel hbel hs hp hp2 hi1 hst
      go_wp2_with (go_at_call 52; ((with_reducible refine W1.out.mono ?_); rintro e w2 ⟨⟨A2, c2, rfl, r2, s2⟩, rfl⟩; have EL := Lib.hid (HEW.out _ A2 c2 rfl r2 s2); clear r2 s2))
      go_roundw
      case rel =>
        refine ⟨j + 1, vs.set j (.slice A2 32 c2), by omega, by go_num, (HST.out _).1, fun k hk => ?_, HBL.out.setCell (by show w.heap.size ≤ L0; rw [HL0.out]; exact Nat.le_refl _) _⟩
        by_cases e : k = j
        · subst e
          exact ⟨_, by rw [List.getElem?_set_self (by have := HVL.out; omega)], EL.out⟩
        · obtain ⟨u, h2, h3⟩ := HE.out k (by omega)
          exact ⟨u, by rw [List.getElem?_set_ne (Ne.symm e)]; exact h2, h3⟩
      case measure => simp [intOf]; omega
    · obtain rfl : j = h := by omega
      have t0 : ¬ (j : Int) < (j : Int) := by omega
      go_wp2
      go_ret
      exact ⟨_, _, rfl, vs, by rw [HL0.out]; exact hown, fun k hk => by
        obtain ⟨u, h1, h2⟩ := hel k hk
        exact ⟨u, h1, (rowE_fp _).weak ((rowE_fp _).keep h2 hbel.size fun b hb _ => hbel.block b (by rw [HL0.out]; exact hb.2)) fun b hb => hb.1⟩, hbel⟩
set_option maxHeartbeats 2000000 in
theorem way_any (sec sd : List UInt8) (ly tr h q : Nat) (hq : q < 2 ^ h) (hh : h ≤ 20) (A : Option Addr) (c : Nat) (S : Nat → Prop) (w : World) (ht : Sl (treeE sec sd ly tr h) w S A (h + 1) c) :
    Calls Tryd.prog 34 #[.slice A (h + 1) c, .int .u32 (q : Int)] w fun e w' => ∃ A' c' vs, e = .returned (.slice A' h c') ∧ w'.ownsRow w.heap.size 29 1 (.slice A' h c') h vs ∧ (∀ j, j < h → ∃ u, vs[j]? = some u ∧ wayE sec sd ly tr q w' S j u) ∧ Below w.heap.size w w' := by
  have hmf : ∀ (fn : Fn) (first cap : Array Value) (w : World), (Instr.makeFunc fn first cap).run Tryd.prog w = .ok (.func fn first cap) w := fun _ _ _ _ => rfl
  obtain ⟨b, hb⟩ : ∃ b, w.heap.size = b := ⟨_, rfl⟩
  obtain ⟨w0, hw0⟩ : ∃ w0, w.alloc (.cells #[.slice A (h + 1) c] 58) = w0 := ⟨_, rfl⟩
  have B0 := Lib.hid (show Below w.heap.size w w0 by rw [← hw0]; exact (Below.refl _ _).alloc (Nat.le_refl _) _)
  have T0 := show Bk w0 b 58 #[.slice A (h + 1) c] by rw [← hw0]; exact Bk.newAt _ _ _ _ hb
  have WC := Lib.hid (cway_any sec sd ly tr h q b hq hh A c S w0 T0 (ht.below (treeE_fp _ _ _ _ _) B0.out))
  obtain ⟨n, hn⟩ : ∃ n, n = h + 1 := ⟨_, rfl⟩
  have t1 : (n : Int) - 1 = (h : Int) := by omega
  have k0 : w0.cell? ⟨b, 0, none⟩ = some (.slice A n c) := by rw [hn]; exact T0.cell 0
  rw [← hn] at hw0 ⊢
  have e1 : wrap64 ((n : Int) - 1) = (h : Int) := by unfold wrap64; omega
  have e2 : wrap64 (h : Int) = (h : Int) := by unfold wrap64; omega
  have e3 : IntKind.i64.wrap ((n : Int) - 1) = (h : Int) := by rw [IntKind.wrap_i64]; omega
  have e4 : IntKind.i64.wrap (h : Int) = (h : Int) := by rw [IntKind.wrap_i64]; omega
  clear hn T0 ht
  go_enter Tryd.func34, Tryd.ntmps34
  go_upto_region 1 with (fail)
  clear hw0
  go_wp2_with (go_at_call 51; ((with_reducible refine WC.out.mono ?_); rintro e w1 ⟨A1, c1, vs, rfl, o1, el1, b1⟩; have O1 := Lib.hid o1; have EL := Lib.hid el1; have B1 := Lib.hid b1; clear o1 el1 b1))
  go_ret
  exact ⟨A1, c1, vs, rfl, own_base O1.out B0.out.size, EL.out, B0.out.trans (B1.out.mono B0.out.size)⟩
end Go.Proofs.YtkpfppiedadmbaaDoor.S16

/-
  The landed package wplus: what hands over the secret of each chain, and a signature's part of each. No statement is proved here. (Written by genwk7.py.)
-/
namespace Go.Proofs.YtkpfppiedadmbaaDoor.S15
set_option linter.unusedSimpArgs false
set_option linter.unusedVariables false
set_option maxRecDepth 1024
open Go.RowKit Go.Shelf
attribute [local go_sem] Oper.semAt_some

theorem chains_any (f : FuncId) (b : Nat) (w : World) :
    Calls Tryd.prog 67 #[.func (.func f) #[] #[.pointer (some ⟨b, 0, none⟩)]] w fun e w' => e = .returned (.func (.func 86) #[] #[.pointer (some ⟨w.heap.size, 0, none⟩)]) ∧ w' = w.alloc (.cells #[.func (.func f) #[] #[.pointer (some ⟨b, 0, none⟩)]] 107) := by
  have hmf : ∀ (fn : Fn) (first cap : Array Value) (w : World), (Instr.makeFunc fn first cap).run Tryd.prog w = .ok (.func fn first cap) w := fun _ _ _ _ => rfl
  go_enter Tryd.func67, Tryd.ntmps67
  go_wp2
  go_ret
  exact ⟨rfl, rfl⟩
/-- What the function value hands over. -/
abbrev encR (k : Nat) (x : Option Addr × Nat) : Array Value := #[.int .i64 (k : Int), .slice x.1 32 x.2]
set_option maxHeartbeats 1000000 in
theorem chains_secrets (m : Nat) (hm : 1 ≤ m) (bc bk : Nat) (U : Nat → List UInt8) (pr : Option Addr → Prop) (ofok : World → Prop)
    (hof : ∀ (X : World) (k : Nat), ofok X → k < 67 → Calls Tryd.prog 68 #[.int .i64 (k : Int), .pointer (some ⟨bk, 0, none⟩)] X fun e X' => ∃ A c, e = .returned (.slice A 32 c) ∧ (Rd X' A 32 c (U k) ∧ pr A) ∧ Below X.heap.size X X') :
    RD.ItW Tryd.prog m 86 #[.pointer (some ⟨bc, 0, none⟩)] encR (fun k x X => Rd X x.1 32 x.2 (U k) ∧ pr x.1) 67 (fun X => Boxed X bc 107 (.func (.func 68) #[] #[.pointer (some ⟨bk, 0, none⟩)]) ∧ ofok X) := by
  intro l J W hJb hJo hY h0
  have HOF := Lib.hid hof
  have HJB := Lib.hid hJb
  have HJO := Lib.hid hJo
  have HY := Lib.hid hY
  clear hof hJb hJo hY
  refine callsIn_of_wp (args := #[.func (.yield l) #[] #[], .pointer (some ⟨bc, 0, none⟩)]) Tryd.func86 rfl trivial ?_ rfl
  simp only [Tryd.ntmps86, List.size_toArray, List.length_cons, List.length_nil, Nat.reduceAdd, Nat.reduceSub, Array.replicate_succ, Array.replicate_zero, List.push_toArray, List.append_toArray, List.nil_append, List.cons_append]
  gi_wp2_with (fail)
  gi_loopw [4] (fun i wr => ∃ j : Nat, j ≤ 67 ∧ i = .int .i64 (j : Int) ∧ J j wr) (fun i _ => 67 - (intOf i).toNat)
  case atStart => exact ⟨0, Nat.zero_le _, rfl, h0⟩
  case round =>
    obtain ⟨j, hj, rfl, hJ⟩ := hrel
    by_cases hlt : j < 67
    · have t0 : (j : Int) < 67 := by omega
      obtain ⟨hbx, hok⟩ := HJO.out _ _ hJ
      have hcell := hbx.cell
      have HC := Lib.hid (HOF.out wr j hok hlt)
      have HJ := Lib.hid hJ
      clear hbx hok hJ h0
      gi_wp2_with (first
        | (refine ⟨trivial, ?_⟩; gi_at_call 68; refine (callsIn_wide.2 HC.out).mono ?_; rintro e w1 ⟨A, c, rfl, r1, b1⟩; obtain ⟨fn, tmps, assign, body, hy, hR⟩ := HY.out j (A, c) w1 (HJB.out _ _ _ HJ.out b1) hlt r1; clear r1 b1)
        | (refine hR.mono ?_; rintro e w2 ⟨rfl, hJ2⟩; have HJ2 := Lib.hid hJ2; clear hJ2)
        | (refine ⟨trivial, ?_⟩; refine hR.mono ?_; rintro e w2 ⟨rfl, hJ2⟩; have HJ2 := Lib.hid hJ2; clear hJ2)
        | (refine ⟨trivial, fun h => (by simp [Fence.wide] at h), ?_⟩; refine hR.mono ?_; rintro e w2 ⟨rfl, hJ2⟩; have HJ2 := Lib.hid hJ2; clear hJ2))
      go_roundw
      case rel => exact ⟨j + 1, by omega, by go_num, HJ2.out⟩
      case measure => simp [intOf]; omega
    · obtain rfl : j = 67 := by omega
      have HJ := Lib.hid hJ
      clear hJ h0
      gi_wp2
      go_end0
      exact ⟨⟨_, rfl⟩, HJ.out⟩
set_option maxHeartbeats 1000000 in
theorem chains_parts (m : Nat) (hm : 1 ≤ m) (bc bk : Nat) (U : Nat → List UInt8) (pr : Option Addr → Prop) (ofok : World → Prop)
    (hof : ∀ (X : World) (k : Nat), ofok X → k < 67 → Calls Tryd.prog 73 #[.int .i64 (k : Int), .pointer (some ⟨bk, 0, none⟩)] X fun e X' => ∃ A c, e = .returned (.slice A 32 c) ∧ (Rd X' A 32 c (U k) ∧ pr A) ∧ Below X.heap.size X X') :
    RD.ItW Tryd.prog m 86 #[.pointer (some ⟨bc, 0, none⟩)] encR (fun k x X => Rd X x.1 32 x.2 (U k) ∧ pr x.1) 67 (fun X => Boxed X bc 107 (.func (.func 73) #[] #[.pointer (some ⟨bk, 0, none⟩)]) ∧ ofok X) := by
  intro l J W hJb hJo hY h0
  have HOF := Lib.hid hof
  have HJB := Lib.hid hJb
  have HJO := Lib.hid hJo
  have HY := Lib.hid hY
  clear hof hJb hJo hY
  refine callsIn_of_wp (args := #[.func (.yield l) #[] #[], .pointer (some ⟨bc, 0, none⟩)]) Tryd.func86 rfl trivial ?_ rfl
  simp only [Tryd.ntmps86, List.size_toArray, List.length_cons, List.length_nil, Nat.reduceAdd, Nat.reduceSub, Array.replicate_succ, Array.replicate_zero, List.push_toArray, List.append_toArray, List.nil_append, List.cons_append]
  gi_wp2_with (fail)
  gi_loopw [4] (fun i wr => ∃ j : Nat, j ≤ 67 ∧ i = .int .i64 (j : Int) ∧ J j wr) (fun i _ => 67 - (intOf i).toNat)
  case atStart => exact ⟨0, Nat.zero_le _, rfl, h0⟩
  case round =>
    obtain ⟨j, hj, rfl, hJ⟩ := hrel
    by_cases hlt : j < 67
    · have t0 : (j : Int) < 67 := by omega
      obtain ⟨hbx, hok⟩ := HJO.out _ _ hJ
      have hcell := hbx.cell
      have HC := Lib.hid (HOF.out wr j hok hlt)
      have HJ := Lib.hid hJ
      clear hbx hok hJ h0
      gi_wp2_with (first
        | (refine ⟨trivial, ?_⟩; gi_at_call 73; refine (callsIn_wide.2 HC.out).mono ?_; rintro e w1 ⟨A, c, rfl, r1, b1⟩; obtain ⟨fn, tmps, assign, body, hy, hR⟩ := HY.out j (A, c) w1 (HJB.out _ _ _ HJ.out b1) hlt r1; clear r1 b1)
        | (refine hR.mono ?_; rintro e w2 ⟨rfl, hJ2⟩; have HJ2 := Lib.hid hJ2; clear hJ2)
        | (refine ⟨trivial, ?_⟩; refine hR.mono ?_; rintro e w2 ⟨rfl, hJ2⟩; have HJ2 := Lib.hid hJ2; clear hJ2)
        | (refine ⟨trivial, fun h => (by simp [Fence.wide] at h), ?_⟩; refine hR.mono ?_; rintro e w2 ⟨rfl, hJ2⟩; have HJ2 := Lib.hid hJ2; clear hJ2))
      go_roundw
      case rel => exact ⟨j + 1, by omega, by go_num, HJ2.out⟩
      case measure => simp [intOf]; omega
    · obtain rfl : j = 67 := by omega
      have HJ := Lib.hid hJ
      clear hJ h0
      gi_wp2
      go_end0
      exact ⟨⟨_, rfl⟩, HJ.out⟩
end Go.Proofs.YtkpfppiedadmbaaDoor.S15

/-
  The landed package wplus: the function values that hand over secrets, and parts of a signature, and what makes them. No statement is proved here.
-/
namespace Go.Proofs.YtkpfppiedadmbaaDoor.S15
set_option linter.unusedSimpArgs false
set_option linter.unusedVariables false
set_option maxRecDepth 1024
open Go.RowKit

/-- What a call gives: 32 bytes that read so. -/
def G32 (xs : List UInt8) (X : World) (e : Ending) (X' : World) : Prop := ∃ A c, e = .returned (.slice A 32 c) ∧ Rd X' A 32 c xs ∧ Below X.heap.size X X'
set_option maxHeartbeats 1000000 in
theorem sec1_core (i bk : Nat) (Ak : Option Addr) (ck : Nat) (b z : List UInt8) (w : World) (hb : Bk w bk 29 #[.slice Ak 32 ck])
    (rw_ : ∀ X, Calls Tryd.prog 69 #[.int .i64 (i : Int)] X (New X.heap.size X b))
    (pf : ∀ X A c, Below w.heap.size w X → Rd X A 32 c b → Calls Tryd.prog 28 #[.slice Ak 32 ck, .slice A 32 c] X (New X.heap.size X z)) (lb : b.length = 32) (lz : z.length = 32) :
    Calls Tryd.prog 68 #[.int .i64 (i : Int), .pointer (some ⟨bk, 0, none⟩)] w (G32 z w) := by
  have RW := Lib.hid rw_
  have PF := Lib.hid pf
  have LB := Lib.hid lb
  have LZ := Lib.hid lz
  have K0 := Lib.hid hb
  have BZ := Lib.hid (Below.refl w.heap.size w)
  clear rw_ pf lb lz hb
  go_enter Tryd.func68, Tryd.ntmps68
  go_upto_region 1 with (fail)
  (go_region_held3 (fun w' => w'.cell? ⟨bk, 0, none⟩ = some (.slice Ak 32 ck))
    (first
      | exact K2.out.cell 0
      | exact K1.out.cell 0
      | exact K0.out.cell 0)
    (first
      | (go_at_call 69; ((with_reducible refine (RW.out _).mono ?_); rintro e w1 ⟨A1, n1, c1, rfl, q1, b1⟩; obtain rfl : n1 = 32 := (own_len q1).symm.trans LB.out; have R1 := Lib.hid (Rd.own q1); have B1 := Lib.hid (BZ.out.drew.trans (b1.mono BZ.out.size)); have K1 := Lib.hid (K0.out.drew.below b1 K0.out.drew.lt); clear q1 b1))
      | (go_at_call 28; ((with_reducible refine (PF.out _ A1 c1 B1.out R1.out).mono ?_); rintro e w2 ⟨A2, n2, c2, rfl, q2, b2⟩; obtain rfl : n2 = 32 := (own_len q2).symm.trans LZ.out; have R2 := Lib.hid (Rd.own q2); have B2 := Lib.hid (B1.out.trans (b2.mono B1.out.size)); have K2 := Lib.hid (K1.out.below b2 K1.out.lt); clear q2 b2))
      | fail))
  go_wp2
  go_ret
  exact ⟨A2, c2, rfl, R2.out, B2.out⟩
theorem sec1_any (i : Nat) (hi : i < 67) (bk : Nat) (Ak : Option Addr) (ck : Nat) (sec : List UInt8) (D : Ad) (w : World) (hk : GK w) (hb : Bk w bk 29 #[.slice Ak 32 ck]) (hr : Rd w Ak 32 ck (prfL sec (adB D 0))) :
    Calls Tryd.prog 68 #[.int .i64 (i : Int), .pointer (some ⟨bk, 0, none⟩)] w (G32 (secL sec D i) w) :=
  sec1_core i bk Ak ck (b32 (UInt8.ofNat i)) (secL sec D i) w hb (fun X => row_any i (by omega) X)
    (fun X A c hX h => prf_any Ak 32 ck _ A 32 c _ X (hk.bel hX) (hr.below hX) h (by omega) (by omega)) (by simp [b32]) (prf_len _ _)
set_option maxHeartbeats 1000000 in
theorem part1_any (i : Nat) (hi : i < 67) (bs : Nat) (Ag : Option Addr) (cg : Nat) (sig : List UInt8) (w : World) (hb : Bk w bs 29 #[.slice Ag 2144 cg]) (hr : Rd w Ag 2144 cg sig) :
    Calls Tryd.prog 73 #[.int .i64 (i : Int), .pointer (some ⟨bs, 0, none⟩)] w fun e w' => ∃ A c, e = .returned (.slice A 32 c) ∧ (Rd w' A 32 c ((sig.drop (32 * i)).take 32) ∧ ∀ a, A = some a → ∃ a0, Ag = some a0 ∧ a.block = a0.block) ∧ Below w.heap.size w w' := by
  have hcap := hr.cap
  obtain ⟨A', hA'⟩ : ∃ A', A' = if cg = 32 * i then Ag else Ag.map (·.add (32 * i)) := ⟨_, rfl⟩
  obtain ⟨c', hc'⟩ : ∃ c', c' = cg - 32 * i := ⟨_, rfl⟩
  have C1 : ∀ W, (Instr.slice 29 (.slice Ag 2144 cg) (some (.int .i64 (32 * (i : Int)))) (some (.int .i64 (32 * ((i : Int) + 1)))) none).run Tryd.prog W = .ok (.slice A' 32 c') W := by
    intro W
    rw [hA', hc']
    exact S2.run_cutSlLH (l' := 32 * i) (m := 32) (by omega) (by omega) (by omega) W
  have C2 : ∀ W, (Instr.sliceAt 29 (.slice Ag 2144 cg) (some (.int .i64 (32 * (i : Int)))) (some (.int .i64 (32 * ((i : Int) + 1)))) none).run Tryd.prog W = .ok (.slice A' 32 c') W := by
    intro W
    rw [hA', hc']
    exact S2.run_cutSlLHAt (l' := 32 * i) (m := 32) (by omega) (by omega) (by omega) W
  have RP := Lib.hid (show Rd w A' 32 c' ((sig.drop (32 * i)).take 32) by
    rw [hA', hc']
    exact (hr.cut (k := 32 * i) (by omega)).take (by omega))
  have T1 : IntKind.i64.wrap (32 * (i : Int)) = 32 * (i : Int) := by rw [IntKind.wrap_i64]; omega
  have T2 : IntKind.i64.wrap ((i : Int) + 1) = (i : Int) + 1 := by rw [IntKind.wrap_i64]; omega
  have T3 : IntKind.i64.wrap (32 * ((i : Int) + 1)) = 32 * ((i : Int) + 1) := by rw [IntKind.wrap_i64]; omega
  have k0 := hb.cell 0
  simp at k0
  have HBL := Lib.hid (show ∀ a, A' = some a → ∃ a0, Ag = some a0 ∧ a.block = a0.block by
    intro a ha
    rw [hA'] at ha
    split at ha
    · exact ⟨a, ha, rfl⟩
    · cases hg : Ag with
      | none => rw [hg] at ha; cases ha
      | some a0 =>
        rw [hg] at ha
        injection ha with ha
        refine ⟨a0, rfl, ?_⟩
        rw [← ha]
        unfold Addr.add
        split <;> rfl)
  clear hb hr hA' hc'
  go_enter Tryd.func73, Tryd.ntmps73
  go_wp2
  go_ret
  exact ⟨A', c', rfl, ⟨RP.out, HBL.out⟩, Below.refl _ _⟩
set_option maxHeartbeats 1000000 in
theorem parts_any (Ag : Option Addr) (cg : Nat) (w : World) :
    Calls Tryd.prog 57 #[.slice Ag 2144 cg] w fun e w' => e = .returned (.func (.func 86) #[] #[.pointer (some ⟨w.heap.size + 1, 0, none⟩)]) ∧ Bk w' w.heap.size 29 #[.slice Ag 2144 cg] ∧ Bk w' (w.heap.size + 1) 107 #[.func (.func 73) #[] #[.pointer (some ⟨w.heap.size, 0, none⟩)]] ∧ Below w.heap.size w w' := by
  have hmf : ∀ (fn : Fn) (first cap : Array Value) (w : World), (Instr.makeFunc fn first cap).run Tryd.prog w = .ok (.func fn first cap) w := fun _ _ _ _ => rfl
  obtain ⟨w0, hw0⟩ : ∃ w0, w.alloc (.cells #[.slice Ag 2144 cg] 29) = w0 := ⟨_, rfl⟩
  have B0 := Lib.hid (show Below w.heap.size w w0 by rw [← hw0]; exact (Below.refl _ _).alloc (Nat.le_refl _) _)
  have G0 := Lib.hid (show Bk w0 w.heap.size 29 #[.slice Ag 2144 cg] by rw [← hw0]; exact Bk.new _ _ _)
  have S0 := Lib.hid (show w0.heap.size = w.heap.size + 1 by rw [← hw0]; simp)
  go_enter Tryd.func57, Tryd.ntmps57
  go_upto_region 1 with (fail)
  clear hw0
  go_wp2_with (go_at_call 67; (refine (chains_any _ _ _).mono ?_); rintro e w1 ⟨rfl, rfl⟩)
  go_ret
  exact ⟨by rw [← S0.out]; rfl, G0.out.alloc _, Bk.newAt _ _ _ _ S0.out, B0.out.alloc B0.out.size _⟩
set_option maxHeartbeats 1000000 in
theorem secrets_core (As : Option Addr) (cs ly tr qq : Nat) (At : Option Addr) (nt ct : Nat) (w : World) (ab key : List UInt8)
    (atc : ∀ X, Calls Tryd.prog 66 #[.agg (lfS As cs ly tr qq), .int .u32 0, .int .i64 0, .int .i64 0] X fun e w' => e = .returned (.agg (qA ly tr qq)) ∧ Below X.heap.size X w')
    (byc : ∀ X, Calls Tryd.prog 65 #[.agg (qA ly tr qq), .int .u32 0] X (New X.heap.size X ab))
    (pfc : ∀ X A c, Below w.heap.size w X → Rd X A 32 c ab → Calls Tryd.prog 28 #[.slice At nt ct, .slice A 32 c] X (New X.heap.size X key)) (la : ab.length = 32) (lk : key.length = 32) :
    Calls Tryd.prog 49 #[.agg (lfS As cs ly tr qq), .slice At nt ct] w fun e w' => ∃ bk bc Ak ck, e = .returned (.func (.func 86) #[] #[.pointer (some ⟨bc, 0, none⟩)]) ∧ w.heap.size ≤ bk ∧ w.heap.size ≤ bc ∧ Bk w' bk 29 #[.slice Ak 32 ck] ∧ Bk w' bc 107 #[.func (.func 68) #[] #[.pointer (some ⟨bk, 0, none⟩)]] ∧ w'.ownsRow w.heap.size 5 1 (.slice Ak 32 ck) 32 (bv key) ∧ Below w.heap.size w w' := by
  have hmf : ∀ (fn : Fn) (first cap : Array Value) (w : World), (Instr.makeFunc fn first cap).run Tryd.prog w = .ok (.func fn first cap) w := fun _ _ _ _ => rfl
  have ATC := Lib.hid atc
  have BYC := Lib.hid byc
  have PFC := Lib.hid pfc
  have LA := Lib.hid la
  have LK := Lib.hid lk
  obtain ⟨g, hg⟩ : ∃ g, w.heap.size = g := ⟨_, rfl⟩
  obtain ⟨w0, hw0⟩ : ∃ w0, w.alloc (.cells (lfS As cs ly tr qq) 83) = w0 := ⟨_, rfl⟩
  have G0 := Lib.hid (show Bk w0 g 83 (lfS As cs ly tr qq) by rw [← hw0, ← hg]; exact Bk.new _ _ _)
  have B0 := Lib.hid (show Below w.heap.size w w0 by rw [← hw0]; exact (Below.refl _ _).alloc (Nat.le_refl _) _)
  obtain ⟨k0, k1, k2, k3⟩ := lfS_cells G0.out
  have HG := Lib.hid hg
  clear atc byc pfc la lk
  go_enter Tryd.func49, Tryd.ntmps49
  go_upto_region 1 with (fail)
  clear hw0 hg
  go_wp2_with (first
    | (go_at_call 66; ((with_reducible refine (ATC.out _).mono ?_); rintro e w1 ⟨rfl, b1⟩; have B1 := Lib.hid (B0.out.trans (b1.mono B0.out.size)); clear b1))
    | (go_at_call 65; ((with_reducible refine (BYC.out _).mono ?_); rintro e w2 ⟨A2, n2, c2, rfl, q2, b2⟩; obtain rfl : n2 = 32 := (own_len q2).symm.trans LA.out; have R2 := Lib.hid (Rd.own q2); have B2 := Lib.hid (B1.out.trans (b2.mono B1.out.size)); clear q2 b2))
    | (go_at_call 28; ((with_reducible refine (PFC.out _ A2 c2 B2.out R2.out).mono ?_); rintro e w3 ⟨A3, n3, c3, rfl, q3, b3⟩; obtain rfl : n3 = 32 := (own_len q3).symm.trans LK.out; have O3 := Lib.hid (own_base q3 B2.out.size); have B3 := Lib.hid (B2.out.trans (b3.mono B2.out.size)); clear q3 b3))
    | (go_at_call 67; (refine (chains_any _ _ _).mono ?_); rintro e w4 ⟨rfl, rfl⟩))
  go_ret
  exact ⟨w3.heap.size, w3.heap.size + 1, A3, c3, rfl, B3.out.size, Nat.le_trans B3.out.size (Nat.le_succ _), (Bk.new _ _ _).alloc _, Bk.newAt _ _ _ _ (by simp), own_below (own_below O3.out ((Below.refl _ _).alloc (Nat.le_refl _) _)) ((Below.refl _ _).alloc (Nat.le_refl _) _), (B3.out.alloc B3.out.size _).alloc (Nat.le_trans B3.out.size (by simp)) _⟩
theorem secrets_any (As : Option Addr) (cs ly tr qq : Nat) (At : Option Addr) (ct : Nat) (sec : List UInt8) (w : World) (hk : GK w) (hr : Rd w At 32 ct sec) (h1 : ly < 4294967296) (h2 : tr < 18446744073709551616) (h3 : qq < 4294967296) :
    Calls Tryd.prog 49 #[.agg (lfS As cs ly tr qq), .slice At 32 ct] w fun e w' => ∃ bk bc Ak ck, e = .returned (.func (.func 86) #[] #[.pointer (some ⟨bc, 0, none⟩)]) ∧ w.heap.size ≤ bk ∧ w.heap.size ≤ bc ∧ Bk w' bk 29 #[.slice Ak 32 ck] ∧ Bk w' bc 107 #[.func (.func 68) #[] #[.pointer (some ⟨bk, 0, none⟩)]] ∧ w'.ownsRow w.heap.size 5 1 (.slice Ak 32 ck) 32 (bv (prfL sec (adB (adQ ly tr qq) 0))) ∧ Below w.heap.size w w' :=
  secrets_core As cs ly tr qq At 32 ct w (adB (adQ ly tr qq) 0) _ (fun X => at_any As cs ly tr qq 0 0 0 (by omega) (by omega) X) (fun X => bytes_any (adQ ly tr qq) ⟨h1, h2, by show 0 < _; omega, h3, by show 0 < _; omega, by show 0 < _; omega⟩ 0 (by omega) X)
    (fun X A c hX h => prf_any At 32 ct sec A 32 c _ X (hk.bel hX) (hr.below hX) h (by omega) (by omega)) (adB_len _ _) (prf_len _ _)
end Go.Proofs.YtkpfppiedadmbaaDoor.S15
