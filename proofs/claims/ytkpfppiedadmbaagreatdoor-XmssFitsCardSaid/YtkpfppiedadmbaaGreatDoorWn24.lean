/-
  Texts put together: WpK6. No statement is proved here.
-/
import Derived.Test.YtkpfppiedadmbaaGreatDoorWn21
import Derived.Test.YtkpfppiedadmbaaGreatDoorWn12
import Derived.Deep.LoopGhost
import Derived.Maps.AppendAt

/-
  The landed package wplus: the sum of a leaf, of its ends. No statement is proved here.
-/
namespace Go.Proofs.YtkpfppiedadmbaaGreatDoor.S15
set_option linter.unusedSimpArgs false
set_option linter.unusedVariables false
set_option maxRecDepth 1024
open Go.RowKit

theorem run_cutRows {A : Option Addr} {n c k : Nat} {l : Int} (hl : l = k) (hk : k ≤ n) (W : World) :
    (Instr.slice 61 (.slice A n c) (some (.int .i64 l)) none none).run Tryz.prog W = .ok (.slice (if c = k then A else A.map (·.add k)) (n - k) (c - k)) W := by
  have ee : Tryz.prog.elem 61 = 24 := by kernel_rfl
  have hs : (sizeOf 24).run Tryz.prog W = .ok 1 W := by kernel_rfl
  subst hl
  rw [run_slice_l W 61 A n c (by rw [ee]; exact Tryz.underlying61) .i64 k (by omega) (by omega), ee, hs]
  simp [Result.andThen, sliced]
theorem run_cutRowsAt {A : Option Addr} {n c k : Nat} {l : Int} (hl : l = k) (hk : k ≤ n) (W : World) :
    (Instr.sliceAt 61 (.slice A n c) (some (.int .i64 l)) none none).run Tryz.prog W = .ok (.slice (if c = k then A else A.map (·.add k)) (n - k) (c - k)) W := by
  have ee : Tryz.prog.elem 61 = 24 := by kernel_rfl
  rw [run_sliceAt_slice W 61 _ _ _ _ (by rw [ee]; exact Tryz.underlying61)]
  exact run_cutRows hl hk W
/-- Where a row of the tree is gone through: the rows, and of the last one alone that it lies in new memory. -/
structure LvI (w : World) (sd : List UInt8) (D : Ad) (R : List UInt8) (f G n : Nat) (A : Option Addr) (c : Nat) (xss : List (List UInt8)) (wr : World) : Prop where
  rd : RdBs wr A n c xss
  l32 : ∀ r ∈ xss, r.length = 32
  lo : 1 ≤ n
  hi : n ≤ 2 ^ f
  eq : leafS sd D f G xss = R
  one : n = 1 → ∃ b off A' c', A = some ⟨b, off, none⟩ ∧ wr.cell? ⟨b, off, none⟩ = some (.slice A' 32 c') ∧ wr.ownsRow w.heap.size 5 1 (.slice A' 32 c') 32 (bv (xss[0]?.getD []))
  bel : Below w.heap.size w wr
/-- The row above, so far: its rows, the first of them in new memory. -/
structure AbI (w wo : World) (n j : Nat) (v : Value) (vs : List Value) (N : List (List UInt8)) (wr : World) : Prop where
  rows : Rows wr wo.heap.size v j vs (N.take j)
  own : 0 < j → ∃ A' c', vs[0]? = some (.slice A' 32 c') ∧ wr.ownsRow wo.heap.size 5 1 (.slice A' 32 c') 32 (bv (N[0]?.getD []))
  bel : Below wo.heap.size wo wr
theorem own_grown {w w' : World} {B e size n : Nat} {v : Value} {xs : List Value} {row : Option Nat} (h : w.ownsRow B e size v n xs) (hg : w.grownBy w' row) (hne : ∀ b, v.ownBlock = some b → row ≠ some b) : w'.ownsRow B e size v n xs := by
  refine ⟨h.1, ?_⟩
  rcases h.2 with h | ⟨b, cap, cur, h1, h2, h3, h4⟩
  · exact .inl h
  · exact .inr ⟨b, cap, cur, h1, h2, (hg.block b (Array.getElem?_eq_some_iff.1 h3).1 fun e => hne b (by rw [h1]; rfl) e.symm).trans h3, h4⟩
theorem Rows.regrow {w w' : World} {B k : Nat} {v v' : Value} {vs : List Value} {xss : List (List UInt8)} (h : Rows w B v k vs xss) (ho : w'.ownsRow B 24 1 v' k vs) (hg : w.grownBy w' v.ownBlock) (hw : v'.ownBlock = v.ownBlock ∨ v'.ownBlock = some w.heap.size) : Rows w' B v' k vs xss := by
  refine ⟨ho, h.len, fun j hj => ?_⟩
  obtain ⟨A, c, h1, h2, h3⟩ := h.row j hj
  refine ⟨A, c, h1, rd_grown h2 (by omega) hg h3, fun a ha e => ?_⟩
  rcases hw with hw | hw
  · exact h3 a ha (hw.symm.trans e)
  · rw [hw] at e
    injection e with e
    obtain ⟨b, off, rfl, hb, _⟩ := h2.at_ (by omega)
    injection ha with ha
    subst ha
    simp at e
    omega
theorem AbI.bel2 {w wo wr w2 : World} {n j : Nat} {Av : Option Addr} {cv : Nat} {vs : List Value} {N : List (List UInt8)} (hA : AbI w wo n j (.slice Av j cv) vs N wr) (hg : wr.grownBy w2 (Value.slice Av j cv).ownBlock) : Below wo.heap.size wo w2 :=
  hA.bel.grown hg hA.bel.size fun k hk => (hA.rows.own.lt k hk).1
/-- What is left where there is an even number of rows. -/
theorem ab_even {w wo wr w2 : World} {n j f G : Nat} {Av : Option Addr} {cv : Nat} {vs : List Value} {N : List (List UInt8)} {v' : Value} {sd R : List UInt8} {D : Ad} (hA : AbI w wo n j (.slice Av j cv) vs N wr) (hB : Below w.heap.size w wo) (h1 : 1 ≤ j) (hl : N.length = j) (h32 : ∀ r ∈ N, r.length = 32) (hf : j ≤ 2 ^ f) (he : leafS sd D f (G + 1) N = R)
    (ho : w2.ownsRow wo.heap.size 24 1 v' (j + 0) (vs ++ [])) (hg : wr.grownBy w2 (Value.slice Av j cv).ownBlock) (hw : v'.ownBlock = (Value.slice Av j cv).ownBlock ∨ v'.ownBlock = some wr.heap.size) : ∃ A c, v' = .slice A j c ∧ LvI w sd D R f (G + 1) j A c N w2 := by
  rw [List.append_nil, Nat.add_zero] at ho
  obtain ⟨i, rfl⟩ : ∃ i, j = i + 1 := ⟨j - 1, by omega⟩
  obtain ⟨g, cap, rfl⟩ := ownsRow_succ ho
  have hr := hA.rows.regrow ho hg hw
  rw [List.take_of_length_le (by omega)] at hr
  refine ⟨_, _, rfl, hr.read, h32, h1, hf, he, fun hj1 => ?_, hB.trans ((hA.bel2 hg).mono hB.size)⟩
  obtain ⟨A', c', hv0, hown0⟩ := hA.own (by omega)
  obtain ⟨A2, c2, k1, k2, k3⟩ := hA.rows.row 0 (by omega)
  rw [hv0] at k1
  injection k1 with k1
  injection k1 with e1 e2 e3
  subst e1 e3
  refine ⟨g, 0, A', c', rfl, ?_, own_base (own_grown hown0 hg fun b hb => ?_) hB.size⟩
  · have hvl : vs.length = i + 1 := by have := ho.1; omega
    rw [ho.cellAt 0 (by omega)]
    exact hv0
  · rcases hown0.2 with ⟨h, hz⟩ | ⟨b', cap', cur', h1, _⟩
    · simp at hz
    · injection h1 with h1
      subst h1
      have hb' : b' = b := by simpa [Value.ownBlock] using hb
      subst hb'
      exact k3 _ rfl
/-- What is left where there is an odd number of rows. -/
theorem ab_odd {w wo wr w2 : World} {n j f G : Nat} {Av : Option Addr} {cv : Nat} {vs : List Value} {N : List (List UInt8)} {v' : Value} {sd R X : List UInt8} {D : Ad} {A1 : Option Addr} {c1 : Nat} (hA : AbI w wo n j (.slice Av j cv) vs N wr) (hB : Below w.heap.size w wo) (h1 : 1 ≤ j) (hl : N.length = j + 1) (h32 : ∀ r ∈ N, r.length = 32) (hf : j + 1 ≤ 2 ^ f) (he : leafS sd D f (G + 1) N = R)
    (hx : N.take (j + 1) = N.take j ++ [X]) (hr1 : Rd wo A1 32 c1 X)
    (ho : w2.ownsRow wo.heap.size 24 1 v' (j + 1) (vs ++ [.slice A1 32 c1])) (hg : wr.grownBy w2 (Value.slice Av j cv).ownBlock) (hw : v'.ownBlock = (Value.slice Av j cv).ownBlock ∨ v'.ownBlock = some wr.heap.size) : ∃ A c, v' = .slice A (j + 1) c ∧ LvI w sd D R f (G + 1) (j + 1) A c N w2 := by
  obtain ⟨g, cap, rfl⟩ := ownsRow_succ ho
  have hr := hA.rows.push ho hg (by
    rcases hw with hw | hw
    · exact .inl hw.symm
    · exact .inr (by simpa [Value.ownBlock] using hw)) (hr1.below hA.bel) (hA.rows.old hr1 (by omega) (Nat.le_refl _))
  rw [← hx, List.take_of_length_le (by omega)] at hr
  exact ⟨_, _, rfl, hr.read, h32, by omega, hf, he, fun hj1 => absurd hj1 (by omega), hB.trans ((hA.bel2 hg).mono hB.size)⟩
theorem news_one {w : World} {b o : Nat} {x : Value} (h : w.cell? ⟨b, o, none⟩ = some x) : ∀ (j : Nat) (u : Value), [x][j]? = some u → w.cell? ((⟨b, o, none⟩ : Addr).add j) = some u := by
  intro j u hu
  rcases j with _ | j
  · simp at hu
    subst hu
    have e : (⟨b, o, none⟩ : Addr).add 0 = ⟨b, o, none⟩ := by simp [Addr.add]
    rw [e]
    exact h
  · simp at hu
theorem own_hne {w : World} {B n : Nat} {A : Option Addr} {c : Nat} {xs : List Value} {e b : Nat} (h : w.ownsRow B e 1 (.slice A n c) n xs) (hn : 0 < n) (hb : (Value.slice A n c).ownBlock = some b) : ∃ a, A = some a ∧ a.block = b := by
  rcases h.2 with ⟨h, hz⟩ | ⟨b', cap', cur', h1, _⟩
  · omega
  · injection h1 with h1
    subst h1
    exact ⟨_, rfl, by simpa [Value.ownBlock] using hb⟩
/-- The first row stays in new memory where one more is put behind. -/
theorem own0_push {w wo wr w5 w6 : World} {n j : Nat} {Av : Option Addr} {cv : Nat} {vs : List Value} {N : List (List UInt8)} (hA : AbI w wo n j (.slice Av j cv) vs N wr) (hE : Below wr.heap.size wr w5) {o : Obj} {A5 : Option Addr} {c5 : Nat} {zs : List UInt8}
    (h5 : w5.ownsRow wo.heap.size 5 1 (.slice A5 32 c5) 32 (bv zs)) (hne5 : ∀ a, A5 = some a → (Value.slice Av j cv).ownBlock ≠ some a.block) (hg : (w5.alloc o).grownBy w6 (Value.slice Av j cv).ownBlock) (hz : N[j]?.getD [] = zs) :
    ∃ A' c', (vs ++ [.slice A5 32 c5])[0]? = some (.slice A' 32 c') ∧ w6.ownsRow wo.heap.size 5 1 (.slice A' 32 c') 32 (bv (N[0]?.getD [])) := by
  have hvl : vs.length = j := by have := hA.rows.own.1; omega
  rcases j with _ | j
  · have : vs = [] := List.eq_nil_of_length_eq_zero hvl
    subst this
    refine ⟨A5, c5, rfl, ?_⟩
    rw [hz]
    refine own_grown (own_below h5 ((Below.refl _ _).alloc (Nat.le_refl _) _)) hg fun b hb e => ?_
    obtain ⟨a, ha, rfl⟩ := own_hne h5 (by omega) hb
    exact hne5 a ha e
  · obtain ⟨A', c', hv0, hown0⟩ := hA.own (by omega)
    obtain ⟨A2, c2, k1, k2, k3⟩ := hA.rows.row 0 (by omega)
    rw [hv0] at k1
    injection k1 with k1
    injection k1 with e1 e2 e3
    subst e1 e3
    refine ⟨A', c', by rw [List.getElem?_append_left (by omega)]; exact hv0, ?_⟩
    refine own_grown (own_below (own_below hown0 hE) ((Below.refl _ _).alloc (Nat.le_refl _) _)) hg fun b hb e => ?_
    obtain ⟨a, ha, rfl⟩ := own_hne hown0 (by omega) hb
    exact k3 a ha e
theorem keep6L {w' : World} {g b q : Nat} {T : TypeId} {As : Option Addr} {cs ly tr qq : Nat} {v1 v2 : Value} (h : Bk w' g T (lfS As cs ly tr qq)) (h2 : w'.cell? ⟨b, q, none⟩ = some v1 ∧ w'.cell? ⟨b, q + 1, none⟩ = some v2) : w'.cell? ⟨g, 0, none⟩ = some (.slice As 32 cs) ∧ w'.cell? ⟨g, 1, none⟩ = some (.int .u32 (ly : Int)) ∧ w'.cell? ⟨g, 2, none⟩ = some (.int .u64 (tr : Int)) ∧ w'.cell? ⟨g, 3, none⟩ = some (.int .u32 (qq : Int)) ∧ w'.cell? ⟨b, q, none⟩ = some v1 ∧ w'.cell? ⟨b, q + 1, none⟩ = some v2 := by
  obtain ⟨a, b, c, d⟩ := lfS_cells h
  exact ⟨a, b, c, d, h2.1, h2.2⟩
set_option maxHeartbeats 4000000 in
theorem sumOf_core (As : Option Addr) (cs ly tr qq : Nat) (sd : List UInt8) (A : Option Addr) (n c : Nat) (xss : List (List UInt8)) (w : World) (hr : RdBs w A n c xss) (h32 : ∀ r ∈ xss, r.length = 32) (h2 : 2 ≤ n) (hn : n ≤ 128) (R : List UInt8)
    (atc : ∀ (X : World) (k i j : Nat), i < 2147483648 → j < 2147483648 → Calls Tryz.prog 86 #[.agg (lfS As cs ly tr qq), .int .u32 (k : Int), .int .i64 (i : Int), .int .i64 (j : Int)] X fun e w' => e = .returned (adV (adK ly tr qq k i j)) ∧ Below X.heap.size X w')
    (hc : ∀ (X : World) (i j : Nat) (A : Option Addr) (c : Nat) (xs : List UInt8) (A' : Option Addr) (c' : Nat) (ys : List UInt8), Below w.heap.size w X → i < 2147483648 → j < 2147483648 → Rd X A 32 c xs → Rd X A' 32 c' ys → Calls Tryz.prog 55 #[.slice As 32 cs, adV (adK ly tr qq 1 i j), .slice A 32 c, .slice A' 32 c'] X (New X.heap.size X (hL sd (adK ly tr qq 1 i j) xs ys)))
    (u0 : leafS sd (adQ ly tr qq) 7 0 xss = R) :
    Calls Tryz.prog 75 #[.agg (lfS As cs ly tr qq), .slice A n c] w (New w.heap.size w R) := by
  unfold adV at *
  have ATC := Lib.hid atc
  have HC := Lib.hid hc
  have I0 := Lib.hid (show LvI w sd (adQ ly tr qq) R 7 0 n A c xss w from ⟨hr, h32, by omega, by omega, u0, fun h => absurd h (by omega), Below.refl _ _⟩)
  clear atc hc hr h32 u0
  obtain ⟨g, hg⟩ : ∃ g, w.heap.size = g := ⟨_, rfl⟩
  obtain ⟨w0, hw0⟩ : ∃ w0, w.alloc (.cells (lfS As cs ly tr qq) 85) = w0 := ⟨_, rfl⟩
  have G0 := Lib.hid (show Bk w0 g 85 (lfS As cs ly tr qq) by rw [← hw0, ← hg]; exact Bk.new _ _ _)
  have B0 := Lib.hid (show Below w.heap.size w w0 by rw [← hw0]; exact (Below.refl _ _).alloc (Nat.le_refl _) _)
  have HG := Lib.hid hg
  go_enter Tryz.func75, Tryz.ntmps75
  go_upto_region 1 with (fail)
  clear hw0 hg
  go_step3
  go_wp2_with (fail)
  go_step3
  go_wp2_with (fail)
  go_loopg [1, 5] 7 (fun f lst gg wr => ∃ (G n : Nat) (A : Option Addr) (c : Nat) (xss : List (List UInt8)), lst = .slice A n c ∧ gg = .int .i64 (G : Int) ∧ G + f = 7 ∧ n ≤ 128 ∧ LvI w sd (adQ ly tr qq) R f G n A c xss wr ∧ Below w0.heap.size w0 wr)
  case atStart =>
    have i0 := I0.out
    exact ⟨0, n, A, c, xss, rfl, rfl, rfl, hn, ⟨i0.rd.below B0.out, i0.l32, i0.lo, i0.hi, i0.eq, fun h => absurd h (by omega), B0.out⟩, Below.refl _ _⟩
  case round =>
    clear I0 h2 hn n A c xss
    obtain ⟨G, n, A, c, xss, rfl, rfl, hGf, h128, hI, hB⟩ := hrel
    have hIH := Lib.hid hI
    have HB := Lib.hid hB
    have h1n := hI.lo
    by_cases h1 : n = 1
    · subst h1
      obtain ⟨b, off, A', c', rfl, hcell, hown⟩ := hI.one rfl
      have hR : xss[0]?.getD [] = R := by
        have hl := hI.rd.len
        match xss, hl, hI.eq with
        | [x], _, e => rw [leafS_one] at e; exact e
      rw [hR] at hown
      have HO := Lib.hid hown
      have HW := Lib.hid hI.bel
      clear hI hB hown hR
      go_wp2
      first
        | rw [Exit.noGoto_ret]
        | skip
      go_ret
      have hx := New.mk HO.out HW.out
      rw [HG.out] at hx
      exact hx
    · obtain ⟨f, rfl⟩ : ∃ f, gk = f + 1 := ⟨gk - 1, by
        have := hI.hi
        rcases gk with _ | k
        · simp at this; omega
        · rfl⟩
      have hn2 : 2 ≤ n := by omega
      have t0 : (1 : Int) < (n : Int) := by omega
      have hl := hI.rd.len
      obtain ⟨N, hN⟩ : ∃ N, N = nextL sd (adQ ly tr qq) G 0 xss := ⟨_, rfl⟩
      have NL := Lib.hid (show N.length = (n + 1) / 2 by rw [hN, next_len, hl])
      have N32 := Lib.hid (show ∀ r ∈ N, r.length = 32 by rw [hN]; exact next_rows sd (adQ ly tr qq) G 0 xss hI.l32)
      have NG := Lib.hid (show ∀ j, 2 * j < n → N[j]?.getD [] = if 2 * j + 1 < n then hL sd (adK ly tr qq 1 G j) (xss[2 * j]?.getD []) (xss[2 * j + 1]?.getD []) else xss[2 * j]?.getD [] by
        intro j hj
        rw [hN, next_get sd (adQ ly tr qq) G 0 xss j (by omega), Nat.zero_add, hl])
      have HE := Lib.hid (show leafS sd (adQ ly tr qq) f (G + 1) N = R by
        have e := hI.eq
        rw [leafS, if_neg (by omega), ← hN] at e
        exact e)
      have NH := Lib.hid (show (n + 1) / 2 ≤ 2 ^ f by
        have := hI.hi
        rw [Nat.pow_succ] at this
        omega)
      have X32 := Lib.hid (show ∀ j, j < n → (xss[j]?.getD []).length = 32 by
        intro j hj
        rw [List.getElem?_eq_getElem (by omega)]
        exact hI.l32 _ (List.getElem_mem _))
      obtain ⟨b, off, rfl, hb, hcell⟩ := hI.rd.at_ (by omega)
      have HCL := Lib.hid hcell
      have HCAP := Lib.hid (And.intro hI.rd.cap hI.rd.max)
      clear hN hl hI hB hcell
      obtain ⟨i0, hi, hz0, hz1, hz2⟩ := info_parts Tryz.infoRows
      have HINF := Lib.hid hi
      clear hi
      go_wp2_with (fail)
      obtain ⟨wo, hwo⟩ : ∃ wo : World, wo = wr := ⟨_, rfl⟩
      rw [← hwo] at hIH HB hb HCL ⊢
      clear hwo
      go_loopg [1, 6, 7] (n + 1) (fun k lst ab i wr => ∃ (j : Nat) (vs : List Value), lst = .slice (some ⟨b, off, none⟩) n c ∧ k + j = n + 1 ∧ 2 * j ≤ n ∧ i = .int .i64 (j : Int) ∧ AbI w wo n j ab vs N wr)
      case atStart => exact ⟨0, [], rfl, rfl, by omega, rfl, ⟨Rows.nil_ _ _, fun h => absurd h (by omega), Below.refl _ _⟩⟩
      case round =>
        obtain ⟨j, vs, rfl, hkj, hj2, rfl, hA⟩ := hrel
        obtain ⟨Av, cv, rfl⟩ := hA.rows.form
        have HA := Lib.hid hA
        have HBL := Lib.hid hA.bel
        obtain ⟨t, ht⟩ : ∃ t, t = 2 * j := ⟨_, rfl⟩
        have w2 : IntKind.i64.wrap (2 * (j : Int)) = (t : Int) := by rw [IntKind.wrap_i64]; omega
        obtain ⟨rA, hrA⟩ : ∃ rA : Option Addr, rA = if c = t then some ⟨b, off, none⟩ else (some (⟨b, off, none⟩ : Addr)).map (·.add t) := ⟨_, rfl⟩
        obtain ⟨rn, hrn⟩ : ∃ rn, rn = n - t := ⟨_, rfl⟩
        obtain ⟨rc, hrc⟩ : ∃ rc, rc = c - t := ⟨_, rfl⟩
        have C1 : ∀ X, (Instr.slice 61 (.slice (some ⟨b, off, none⟩) n c) (some (.int .i64 (t : Int))) none none).run Tryz.prog X = .ok (.slice rA rn rc) X := fun X => by rw [hrA, hrn, hrc]; exact run_cutRows rfl (by omega) X
        have C2 : ∀ X, (Instr.sliceAt 61 (.slice (some ⟨b, off, none⟩) n c) (some (.int .i64 (t : Int))) none none).run Tryz.prog X = .ok (.slice rA rn rc) X := fun X => by rw [hrA, hrn, hrc]; exact run_cutRowsAt rfl (by omega) X
        clear hA
        by_cases hlt : rn < 2
        · have t1 : (rn : Int) < 2 := by omega
          have hj1 : 1 ≤ j := by omega
          obtain ⟨ra, hra⟩ : ∃ ra, rA = some ra := by
            rw [hrA]
            split
            · exact ⟨_, rfl⟩
            · exact ⟨_, rfl⟩
          have HJ := Lib.hid ht
          have HRN := Lib.hid hrn
          by_cases hrn0 : rn = 0
          · have HEND := Lib.hid (fun (v' : Value) (w2 : World) (h1 : w2.ownsRow wo.heap.size 24 1 v' (j + 0) (vs ++ [])) (h2 : wr.grownBy w2 (Value.slice Av j cv).ownBlock) (h3 : v'.ownBlock = (Value.slice Av j cv).ownBlock ∨ v'.ownBlock = some wr.heap.size) => And.intro (ab_even HA.out hIH.out.bel hj1 (by rw [NL.out]; omega) N32.out (by have := NH.out; omega) HE.out h1 h2 h3) (HA.out.bel2 h2))
            subst hrn0
            rw [hra] at C1 C2
            clear hrA hrc ht hrn hra
            go_wp2_with (at_builtin; refine wpList_append_own_at _ rfl (.tmp 23) (.tmp 24) 61 rfl wo.heap.size 24 i0 _ 1 24 Tryz.underlying61 HINF.out hz0 hz1 hz2 rfl (by omega) (.slice Av j cv) j vs rfl HA.out.rows.own ra 0 rc [] rfl rfl (by simp) (by simp) (by simp only [maxLen]; omega) (by omega) HBL.out.size ?_; intro v2 w2 o2 g2 _ n2; obtain ⟨⟨A2, c2, e2, q2⟩, m2⟩ := HEND.out v2 w2 o2 g2 n2; subst e2; have Q2 := Lib.hid q2; have M2 := Lib.hid m2; clear o2 g2 n2 q2 m2)
            go_roundg f
            case rel => exact ⟨G + 1, j, A2, c2, N, rfl, by go_num, by omega, by omega, Q2.out, HB.out.trans (M2.out.mono HB.out.size)⟩
            case measure => omega
          · obtain rfl : rn = 1 := by omega
            have hjn : t + 1 = n := by omega
            obtain ⟨A1, n1, c1, k1, r1⟩ := HCL.out t (by omega)
            obtain rfl : 32 = n1 := by have e1 := r1.len; rw [X32.out t (by omega)] at e1; exact e1
            have hra2 : ra = ⟨b, off + t, none⟩ := by
              have := HCAP.out.1
              rw [hra, if_neg (by omega)] at hrA
              by_cases h0 : t = 0
              · simpa [Addr.add, h0] using hrA
              · simpa [Addr.add, h0] using hrA
            have k1' := (HBL.out.cell (p := ⟨b, off + t, none⟩) hb).trans k1
            have HNX := Lib.hid (show N.take (j + 1) = N.take j ++ [xss[t]?.getD []] by
              rw [take_next (by have := NL.out; omega), NG.out j (by omega), if_neg (by omega), ht])
            have R1 := Lib.hid r1
            have HEND := Lib.hid (fun (v' : Value) (w2 : World) (h1 : w2.ownsRow wo.heap.size 24 1 v' (j + 1) (vs ++ [.slice A1 32 c1])) (h2 : wr.grownBy w2 (Value.slice Av j cv).ownBlock) (h3 : v'.ownBlock = (Value.slice Av j cv).ownBlock ∨ v'.ownBlock = some wr.heap.size) => And.intro (ab_odd HA.out hIH.out.bel hj1 (by rw [NL.out]; omega) N32.out (by have := NH.out; omega) HE.out HNX.out R1.out h1 h2 h3) (HA.out.bel2 h2))
            subst hra2
            rw [hra] at C1 C2
            have K1 := Lib.hid k1'
            clear hrA hrc ht hrn hra r1 k1 k1'
            go_wp2_with (at_builtin; refine wpList_append_own_at _ rfl (.tmp 23) (.tmp 24) 61 rfl wo.heap.size 24 i0 _ 1 24 Tryz.underlying61 HINF.out hz0 hz1 hz2 rfl (by omega) (.slice Av j cv) j vs rfl HA.out.rows.own ⟨b, off + t, none⟩ 1 rc [.slice A1 32 c1] rfl (by rfl) (news_one K1.out) (by simp [Value.oneCell']) (by simp only [maxLen]; omega) (by omega) HBL.out.size ?_; intro v2 w2 o2 g2 _ n2; obtain ⟨⟨A2, c2, e2, q2⟩, m2⟩ := HEND.out v2 w2 o2 g2 n2; subst e2; have Q2 := Lib.hid q2; have M2 := Lib.hid m2; clear o2 g2 n2 q2 m2)
            go_roundg f
            case rel => exact ⟨G + 1, j + 1, A2, c2, N, rfl, by go_num, by omega, by omega, Q2.out, HB.out.trans (M2.out.mono HB.out.size)⟩
            case measure => omega
        · have t1 : ¬ (rn : Int) < 2 := by omega
          have t2 : (0 : Int) < (rn : Int) := by omega
          have t3 : (1 : Int) < (rn : Int) := by omega
          have t4 : 0 < rn := by omega
          have t5 : 1 < rn := by omega
          have htn : t + 2 ≤ n := by omega
          obtain ⟨A1, n1, c1, k1, r1⟩ := HCL.out t (by omega)
          obtain rfl : 32 = n1 := by have e1 := r1.len; rw [X32.out t (by omega)] at e1; exact e1
          obtain ⟨A2, n2, c2, k2, r2⟩ := HCL.out (t + 1) (by omega)
          obtain rfl : 32 = n2 := by have e1 := r2.len; rw [X32.out (t + 1) (by omega)] at e1; exact e1
          have hra2 : rA = some ⟨b, off + t, none⟩ := by
            have := HCAP.out.1
            rw [hrA, if_neg (by omega)]
            by_cases h0 : t = 0 <;> simp [Addr.add, h0]
          rw [hra2] at C1 C2
          have HNX := Lib.hid (show N.take (j + 1) = N.take j ++ [hL sd (adK ly tr qq 1 G j) (xss[t]?.getD []) (xss[t + 1]?.getD [])] by
            rw [take_next (by have := NL.out; omega), NG.out j (by omega), if_pos (by omega), ht])
          have HN0 := Lib.hid (show N[j]?.getD [] = hL sd (adK ly tr qq 1 G j) (xss[t]?.getD []) (xss[t + 1]?.getD []) by
            rw [NG.out j (by omega), if_pos (by omega), ht])
          have RX := Lib.hid r1
          have RY := Lib.hid r2
          obtain ⟨q, hq⟩ : ∃ q, q = off + t := ⟨_, rfl⟩
          rw [show off + (t + 1) = q + 1 by omega] at k2
          rw [← hq] at k1 C1 C2
          have K1 := Lib.hid k1
          have K2 := Lib.hid k2
          have HTN := Lib.hid htn
          obtain ⟨X1, hX1⟩ : ∃ X, X = xss[t]?.getD [] := ⟨_, rfl⟩
          obtain ⟨X2, hX2⟩ : ∃ X, X = xss[t + 1]?.getD [] := ⟨_, rfl⟩
          rw [← hX1] at HNX RX HN0
          rw [← hX2] at HNX RY HN0
          have HJ := Lib.hid ht
          have HL := Lib.hid (show (hL sd (adK ly tr qq 1 G j) X1 X2).length = 32 from num_len _ _ _)
          have ATJ := Lib.hid (show ∀ X, Calls Tryz.prog 86 #[.agg (lfS As cs ly tr qq), .int .u32 1, .int .i64 (G : Int), .int .i64 (j : Int)] X fun e w' => e = .returned (.agg #[.int .u32 (ly : Int), .int .u64 (tr : Int), .int .u32 1, .int .u32 (qq : Int), .int .u32 (G : Int), .int .u32 (j : Int)]) ∧ Below X.heap.size X w' from fun X => ATC.out X 1 G j (by omega) (by omega))
          have HJC := Lib.hid (show ∀ X (A : Option Addr) (c : Nat) (A' : Option Addr) (c' : Nat), Below w.heap.size w X → Rd X A 32 c X1 → Rd X A' 32 c' X2 → Calls Tryz.prog 55 #[.slice As 32 cs, .agg #[.int .u32 (ly : Int), .int .u64 (tr : Int), .int .u32 1, .int .u32 (qq : Int), .int .u32 (G : Int), .int .u32 (j : Int)], .slice A 32 c, .slice A' 32 c'] X (New X.heap.size X (hL sd (adK ly tr qq 1 G j) X1 X2)) from fun X A c A' c' hX h h' => HC.out X G j A c X1 A' c' X2 hX (by omega) (by omega) h h')
          generalize hL sd (adK ly tr qq 1 G j) X1 X2 = zs at HNX HN0 HL HJC
          have BB := Lib.hid (show ∀ w', Below wo.heap.size wo w' → Below w.heap.size w w' from fun w' h => hIH.out.bel.trans (h.mono hIH.out.bel.size))
          have GO := Lib.hid (G0.out.below HB.out G0.out.lt)
          have KP := Lib.hid (show ∀ w', Below wo.heap.size wo w' → w'.cell? ⟨g, 0, none⟩ = some (.slice As 32 cs) ∧ w'.cell? ⟨g, 1, none⟩ = some (.int .u32 (ly : Int)) ∧ w'.cell? ⟨g, 2, none⟩ = some (.int .u64 (tr : Int)) ∧ w'.cell? ⟨g, 3, none⟩ = some (.int .u32 (qq : Int)) ∧ w'.cell? ⟨b, q, none⟩ = some (.slice A1 32 c1) ∧ w'.cell? ⟨b, q + 1, none⟩ = some (.slice A2 32 c2) from fun w' h => keep6L (GO.out.below h GO.out.lt) ⟨(h.cell (p := ⟨b, q, none⟩) hb).trans K1.out, (h.cell (p := ⟨b, q + 1, none⟩) hb).trans K2.out⟩)
          clear hrA hrc ht hrn hra2 r1 r2 k1 k2 hX1 hX2 hq htn
          go_upto_region 10 with (fail)
          (go_region_held3 (fun w' => w'.cell? ⟨g, 0, none⟩ = some (.slice As 32 cs) ∧ w'.cell? ⟨g, 1, none⟩ = some (.int .u32 (ly : Int)) ∧ w'.cell? ⟨g, 2, none⟩ = some (.int .u64 (tr : Int)) ∧ w'.cell? ⟨g, 3, none⟩ = some (.int .u32 (qq : Int)) ∧ w'.cell? ⟨b, q, none⟩ = some (.slice A1 32 c1) ∧ w'.cell? ⟨b, q + 1, none⟩ = some (.slice A2 32 c2))
            (first
              | exact KP.out _ B6.out
              | exact KP.out _ (B5.out.alloc B5.out.size _)
              | exact KP.out _ B5.out
              | exact KP.out _ B4.out
              | exact KP.out _ HBL.out.drew)
            (first
              | (go_at_call 86; ((with_reducible refine (ATJ.out _).mono ?_); rintro e w4 ⟨rfl, b4⟩; have B4 := Lib.hid (HBL.out.drew.trans (b4.mono HBL.out.size)); have AB4 := Lib.hid (HA.out.rows.drew.below b4); have OB4 := Lib.hid b4; clear b4))
              | (go_at_call 55; ((with_reducible refine (HJC.out _ A1 c1 A2 c2 (BB.out _ B4.out) (RX.out.below B4.out) (RY.out.below B4.out)).mono ?_); rintro e w5 ⟨A5, n5, c5, rfl, q5, b5⟩; obtain rfl : n5 = 32 := (own_len q5).symm.trans HL.out; have O5 := Lib.hid q5; have B5 := Lib.hid (B4.out.trans (b5.mono B4.out.size)); have W5 := Lib.hid (AB4.out.newer q5); have R5 := Lib.hid (AB4.out.below b5); have E5 := Lib.hid (OB4.out.trans (b5.mono OB4.out.size)); clear q5 b5))
              | (refine step_append_lies _ (by rfl) (.tmp 26) (.tmp 40) 61 (by rfl) wo.heap.size 24 i0 _ 1 24 Tryz.underlying61 HINF.out hz0 hz1 hz2 rfl (by omega) (.slice Av j cv) j vs (by rfl) (R5.out.alloc _).own ⟨w5.heap.size, 0, none⟩ 1 1 [.slice A5 32 c5] (by rfl) (by rfl) (World.news_of_block (heap_alloc_new w5 _)) (by simp [Value.oneCell']) (by omega) (by simp only [maxLen]; omega) (by omega) (by have := B5.out.size; simp; omega) (w5.heap.size + 1) (by simp) ?_; intro gg cap w6 hown6 hgrow6 hat6 hltg6; have B6 := Lib.hid ((B5.out.alloc B5.out.size (.cells #[.slice A5 32 c5] 24)).grown hgrow6 (by have := B5.out.size; simp; omega) (fun k hk => (R5.out.own.lt k hk).1)); have O6 := Lib.hid hown6; have W6 := Lib.hid hgrow6; have T6 := Lib.hid hat6; clear hown6 hgrow6 hat6 hltg6)
              | fail))
          go_wp2
          go_roundg (gk - 1)
          case rel =>
            refine ⟨j + 1, vs ++ [.slice A5 32 c5], rfl, by omega, by have := HTN.out; have := HJ.out; omega, by go_num, ?_, fun _ => ?_, B6.out⟩
            · rw [HNX.out]
              exact (R5.out.alloc _).push O6.out W6.out (by simpa using T6.out) ((Rd.own O5.out).alloc _) W5.out
            · exact own0_push HA.out ((Below.refl _ _).drew.trans E5.out) (own_base O5.out B4.out.size) W5.out W6.out HN0.out
          case measure => omega
theorem sumOf_any (As : Option Addr) (cs ly tr qq : Nat) (sd : List UInt8) (A : Option Addr) (n c : Nat) (xss : List (List UInt8)) (w : World) (hk : GK w) (hs : Rd w As 32 cs sd) (hr : RdBs w A n c xss) (h32 : ∀ r ∈ xss, r.length = 32) (h2 : 2 ≤ n) (hn : n ≤ 128) (h1 : ly < 4294967296) (h3 : tr < 18446744073709551616) (h4 : qq < 4294967296) :
    Calls Tryz.prog 75 #[.agg (lfS As cs ly tr qq), .slice A n c] w (New w.heap.size w (leafS sd (adQ ly tr qq) 7 0 xss)) :=
  sumOf_core As cs ly tr qq sd A n c xss w hr h32 h2 hn _ (fun X k i j hi hj => at_any As cs ly tr qq k i j hi hj X)
    (fun X i j A c xs A' c' ys hX hi hj h h' => h_any (adK ly tr qq 1 i j) ⟨h1, h3, by show 1 < _; omega, h4, by show i < _; omega, by show j < _; omega⟩ As cs sd A c xs A' c' ys X (hk.bel hX) (hs.below hX) h h') rfl
end Go.Proofs.YtkpfppiedadmbaaGreatDoor.S15
