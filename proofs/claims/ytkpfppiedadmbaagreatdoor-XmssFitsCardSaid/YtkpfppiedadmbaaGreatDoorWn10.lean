/-
  Texts put together: RPut, WpR1, WpR2, WpR3, WpR4. No statement is proved here.
-/
import Derived.Test.YtkpfppiedadmbaaGreatDoorWn09
import Derived.Test.YtkpfppiedadmbaaGreatDoorWn02
import Derived.Test.YtkpfppiedadmbaaGreatDoorWn08
import Derived.OwnWalk
import Derived.Deep.RegionHeld3
import Derived.Deep.Cut

/-
  What the document's own Put and Cat do, of layer 1; append, and where what is appended lies. No statement is proved here.
-/
namespace Go.Proofs.YtkpfppiedadmbaaGreatDoor
set_option linter.unusedSimpArgs false
set_option linter.unusedVariables false
set_option maxRecDepth 1024
open Go.RowKit

/-- append; where the new row lies. -/
theorem append_rdA {w : World} {ops : Array Oper} {rest : List Oper} {o : Oper} {a : Act} {Q : Exit → Act → World → Prop} (hgd : o.guard = none) (s x : Operand)
    (ho : o.op = .call { callee := .builtin .append, args := #[s, x], argTypes := #[24, 24] })
    (base : Nat) (v : Value) (n : Nat) (xs : List UInt8) (hs : a.eval s = v) (hown : w.ownsRow base 5 1 v n (bv xs))
    (A : Option Addr) (m c : Nat) (ys : List UInt8) (hx : a.eval x = .slice A m c) (hr : Rd w A m c ys) (hb : n + m ≤ 140737488355328) (hbase : base ≤ w.heap.size)
    (h : ∀ v' w', w'.ownsRow base 5 1 v' (n + m) (bv (xs ++ ys)) → w.grownBy w' v.ownBlock → (v'.ownBlock = v.ownBlock ∨ v'.ownBlock = some w.heap.size) → wpList Tryz.prog ops Q rest (a.put o.dst v') w') :
    wpList Tryz.prog ops Q (o :: rest) a w :=
  wpList_plain hgd fun K hK => by
    have := step_append_rd (ops := ops) (o := o) (a := a) (K := K) (Q := Q) (E := True) (by simp [Region.wanted, hgd]) s x ho base v n xs hs hown A m c ys hx hr hb hbase (fun v' w' h1 h2 h3 => hK _ _ (h v' w' h1 h2 h3))
    rwa [if_pos (by simp [Region.wanted, hgd])] at this
/-- append where it is guarded. -/
theorem append_zz {w : World} {ops : Array Oper} {rest : List Oper} {o : Oper} {a : Act} {Q : Exit → Act → World → Prop} (hw : Region.wanted o (yielded ops a.tmps) = true) (s x : Operand)
    (ho : o.op = .call { callee := .builtin .append, args := #[s, x], argTypes := #[24, 24] })
    (base : Nat) (v : Value) (n : Nat) (xs : List UInt8) (hs : a.eval s = v) (hown : w.ownsRow base 5 1 v n (bv xs))
    (A : Option Addr) (m c : Nat) (ys : List UInt8) (hx : a.eval x = .slice A m c) (hr : Rd w A m c ys) (hb : n + m ≤ 140737488355328) (hbase : base ≤ w.heap.size)
    (h : ∀ v' w', w'.ownsRow base 5 1 v' (n + m) (bv (xs ++ ys)) → w.grownBy w' v.ownBlock → wpList Tryz.prog ops Q rest (a.put o.dst v') w') :
    wpList Tryz.prog ops Q (o :: rest) a w := by
  unfold wpList
  rw [if_pos hw]
  left
  have := step_append_rd (ops := ops) (o := o) (a := a) (K := wpList Tryz.prog ops Q rest) (Q := Q) (E := True) hw s x ho base v n xs hs hown A m c ys hx hr hb hbase (fun v' w' h1 h2 _ => h v' w' h1 h2)
  rwa [if_pos hw] at this
theorem own_apart {w w' : World} {B e size n : Nat} {v : Value} {xs : List Value} {row : Option Nat} (h : w.ownsRow B e size v n xs) (hg : w.grownBy w' row) (hb : ∀ g, v.ownBlock = some g → row ≠ some g) : w'.ownsRow B e size v n xs := by
  refine ⟨h.1, ?_⟩
  rcases h.2 with h | ⟨g, cap, cur, h1, h2, h3, h4⟩
  · exact .inl h
  · refine .inr ⟨g, cap, cur, h1, h2, ?_, h4⟩
    have hlt : g < w.heap.size := by
      rcases Nat.lt_or_ge g w.heap.size with h | h
      · exact h
      · rw [Array.getElem?_eq_none h] at h3; cases h3
    rw [hg.block g hlt (fun e => hb g (by rw [h1]; rfl) e.symm)]
    exact h3
theorem own_byte (w : World) (B q : Nat) (hB : B ≤ w.heap.size) :
    (w.alloc (.cells #[.int .u8 ((q : Int) % 256)] 5)).ownsRow B 5 1 (.slice (some ⟨w.heap.size, 0, none⟩) 1 1) 1 (bv [UInt8.ofNat q]) := by
  have := own_lit_u8 w B [UInt8.ofNat q] hB (by simp [maxLen])
  simpa [bv] using this
theorem rput_next (V k : Nat) (hV : V < 18446744073709551616) : Value.int .u64 (IntKind.u64.wrap (((V / 256 ^ k : Nat) : Int) / 256)) = .int .u64 ((V / 256 ^ (k + 1) : Nat) : Int) := by
  have h := Nat.div_le_self V (256 ^ k)
  rw [Nat.pow_succ, ← Nat.div_div_eq_div_mul, IntKind.wrap_u64]
  generalize V / 256 ^ k = q at h ⊢
  congr 1
  omega
theorem putL_succ (V k q : Nat) (hq : q = V / 256 ^ k) : putL V (k + 1) = [UInt8.ofNat q] ++ putL V k := by rw [hq]; rfl
set_option maxHeartbeats 1000000 in
theorem rput_any (V n : Nat) (w : World) (hn : n ≤ 8) (hV : V < 18446744073709551616) :
    Calls Tryz.prog 38 #[.int .u64 (V : Int), .int .i64 (n : Int)] w (New w.heap.size w (putL V n)) := by
  go_enter Tryz.func38, Tryz.ntmps38
  go_wp2
  go_loopw [0, 5, 6] (fun v out i wr => ∃ k : Nat, k ≤ n ∧ i = .int .i64 (k : Int) ∧ v = .int .u64 ((V / 256 ^ k : Nat) : Int) ∧ wr.ownsRow w.heap.size 5 1 out k (bv (putL V k)) ∧ Below w.heap.size w wr)
    (fun _ _ i _ => n - (intOf i).toNat)
  case atStart =>
    refine ⟨0, Nat.zero_le _, rfl, by simp, ?_, (Below.refl _ _).alloc (Nat.le_refl _) _⟩
    exact own_lit_u8 w w.heap.size [] (Nat.le_refl _) (by simp)
  case round =>
    obtain ⟨k, hk, rfl, rfl, hown, hbel⟩ := hrel
    by_cases hlt : k < n
    · obtain ⟨A', c', rfl⟩ := own_form hown
      have hr := Rd.own hown
      have hsz := hbel.size
      obtain ⟨q, hq⟩ : ∃ q, q = V / 256 ^ k := ⟨_, rfl⟩
      have HQ := Lib.hid hq
      rw [← hq]
      clear hq
      have hlit := own_byte wr w.heap.size q hsz
      have hb1 : Below w.heap.size w (wr.alloc (.cells #[.int .u8 ((q : Int) % 256)] 5)) := hbel.alloc hsz _
      go_wp2_with (at_builtin; refine append_rd rfl _ _ rfl w.heap.size _ 1 _ rfl hlit A' k c' _ rfl (hr.alloc _) (by omega) hb1.size ?_; intro v' w1 hown1 hg1)
      go_roundw
      case rel =>
        exact ⟨k + 1, by omega, by go_num, by rw [HQ.out]; exact rput_next V k hV, by rw [putL_succ V k q HQ.out, Nat.add_comm k 1]; exact hown1, hb1.grown hg1 hb1.size (fun g hg => (hlit.lt g hg).1)⟩
      case measure => simp [intOf]; omega
    · obtain rfl : k = n := by omega
      go_wp2
      go_ret
      exact New.mk hown hbel
theorem rcat_any (A : Option Addr) (n c : Nat) (xss : List (List UInt8)) (w : World) (h : RdBs w A n c xss) (ht : xss.flatten.length ≤ 140737488355328) :
    Calls Tryz.prog 37 #[.slice A n c] w (New w.heap.size w xss.flatten) := by
  have l1 : n ≤ maxLen := Nat.le_trans h.cap h.max
  unfold maxLen at l1
  go_enter Tryz.func37, Tryz.ntmps37
  go_wp2
  go_loopw [3, 4] (fun out i wr => ∃ j m : Nat, j ≤ n ∧ i = .int .i64 (j : Int) ∧ wr.ownsRow w.heap.size 5 1 out m (bv (cats xss j)) ∧ Below w.heap.size w wr) (fun _ i _ => n - (intOf i).toNat)
  case atStart => exact ⟨0, 0, Nat.zero_le _, rfl, by simpa [bv, cats] using World.ownsRow_nil _ _ _ _, Below.refl _ _⟩
  case round =>
    obtain ⟨j, m, hj, rfl, hown, hbel⟩ := hrel
    by_cases hlt : j < n
    · obtain ⟨b, off, rfl, hb, hcell⟩ := (h.below hbel).at_ (by omega)
      obtain ⟨A', n', c', hc, hr⟩ := hcell j hlt
      have e1 := cats_succ xss j (by have := h.len; omega)
      have e2 := tot_le xss (j + 1)
      have hm := own_len hown
      have e3 : m + n' ≤ 140737488355328 := by unfold tot at e2; rw [e1, List.length_append, hr.len] at e2; omega
      have E := Lib.hid e1
      clear hcell e1 e2 hm
      go_wp2_with (at_builtin; refine append_rd rfl _ _ rfl w.heap.size _ m _ rfl hown A' n' c' _ rfl hr e3 hbel.size ?_; intro v' w1 hown1 hg1)
      go_roundw
      case rel => exact ⟨j + 1, m + n', by omega, by go_num, by rw [E.out]; exact hown1, hbel.grown hg1 hbel.size (fun g hg => (hown.lt g hg).1)⟩
      case measure => simp [intOf]; omega
    · obtain rfl : j = n := by omega
      have e := cats_all xss j h.len
      rw [e] at hown
      clear e
      go_wp2
      go_ret
      exact New.mk hown hbel
end Go.Proofs.YtkpfppiedadmbaaGreatDoor

/-
  What the document's own sums with masks do: word, xor, Num, Prf, Bytes, F, H of layer 14. No statement is proved here. (Written by genwp1.py.)
-/
namespace Go.Proofs.YtkpfppiedadmbaaGreatDoor.S15
set_option linter.unusedSimpArgs false
set_option linter.unusedVariables false
set_option maxRecDepth 1024
open Go.RowKit

/-- An address's value; its numbers are of 32 and of 64 bits. -/
def adV (A : Ad) : Value := .agg #[.int .u32 (A.layer : Int), .int .u64 (A.tree : Int), .int .u32 (A.kind : Int), .int .u32 (A.a : Int), .int .u32 (A.b : Int), .int .u32 (A.c : Int)]
structure Ad.Ok (A : Ad) : Prop where
  layer : A.layer < 4294967296
  tree : A.tree < 18446744073709551616
  kind : A.kind < 4294967296
  a : A.a < 4294967296
  b : A.b < 4294967296
  c : A.c < 4294967296
theorem new_of {B : Nat} {w w' : World} {xs : List UInt8} {e : Ending} (h : New B w xs e w') : ∃ (A : Option Addr) (c : Nat), e = .returned (.slice A xs.length c) ∧ w'.ownsRow B 5 1 (.slice A xs.length c) xs.length (bv xs) ∧ Below B w w' := by
  obtain ⟨A, n, c, rfl, ho, hb⟩ := h
  obtain rfl := own_len ho
  exact ⟨A, c, rfl, ho, hb⟩
theorem rword_any (v : Nat) (hv : v < 4294967296) (w : World) : Calls Tryz.prog 99 #[.int .u32 (v : Int)] w (New w.heap.size w (putL v 4)) := by
  have H := Lib.hid (show ∀ X, Calls Tryz.prog 38 #[.int .u64 (v : Int), .int .i64 4] X (New X.heap.size X (putL v 4)) from fun X => rput_any v 4 X (by omega) (by omega))
  go_enter Tryz.func99, Tryz.ntmps99
  go_wp2_with (go_at_call 38; ((with_reducible refine (H.out _).mono ?_); rintro e w1 ⟨A1, n1, c1, rfl, o1, b1⟩; have O1 := Lib.hid o1; have B1 := Lib.hid b1; clear o1 b1))
  go_ret
  exact ⟨A1, n1, c1, rfl, O1.out, B1.out⟩
theorem xr_succ (xs ys : List UInt8) (j : Nat) (hx : j < xs.length) (hy : j < ys.length) : (xr xs ys).take (j + 1) = (xr xs ys).take j ++ [xs.getD j 0 ^^^ ys.getD j 0] := by
  have hl : j < (xr xs ys).length := by simp [xr]; omega
  rw [List.take_add_one, List.getElem?_eq_getElem hl]
  simp [xr, List.getD, List.getElem?_eq_getElem hx, List.getElem?_eq_getElem hy]
set_option maxHeartbeats 2000000 in
theorem rxor_any (A A' : Option Addr) (c c' : Nat) (xs ys : List UInt8) (w : World) (h : Rd w A 32 c xs) (h' : Rd w A' 32 c' ys) :
    Calls Tryz.prog 79 #[.slice A 32 c, .slice A' 32 c'] w (New w.heap.size w (xr xs ys)) := by
  have hl := h.len
  have hl' := h'.len
  obtain ⟨b0, off0, rfl, hb0, hc0⟩ := h.at_ (by omega)
  obtain ⟨b1, off1, rfl, hb1, hc1⟩ := h'.at_ (by omega)
  go_enter Tryz.func79, Tryz.ntmps79
  go_wp2
  go_loopw [5, 6] (fun out i wr => ∃ j : Nat, j ≤ 32 ∧ i = .int .i64 (j : Int) ∧ wr.ownsRow w.heap.size 5 1 out j (bv ((xr xs ys).take j)) ∧ Below w.heap.size w wr) (fun _ i _ => 32 - (intOf i).toNat)
  case atStart => exact ⟨0, Nat.zero_le _, rfl, by simpa [bv] using World.ownsRow_nil _ _ _ _, Below.refl _ _⟩
  case round =>
    obtain ⟨j, hj, rfl, hown, hbel⟩ := hrel
    obtain ⟨wo, rfl⟩ : ∃ wo : World, wo = wr := ⟨_, rfl⟩
    by_cases hlt : j < 32
    · have i0 : (j : Int) < 32 := by omega
      have c0 := (hbel.cell (p := ⟨b0, off0 + j, none⟩) hb0).trans (hc0 j hlt)
      have c1 := (hbel.cell (p := ⟨b1, off1 + j, none⟩) hb1).trans (hc1 j hlt)
      have hs := xr_succ xs ys j (by omega) (by omega)
      obtain ⟨x, hX0⟩ : ∃ x, xs.getD j 0 = x := ⟨_, rfl⟩
      obtain ⟨y, hY0⟩ : ∃ y, ys.getD j 0 = y := ⟨_, rfl⟩
      rw [hX0] at c0 hs
      rw [hY0] at c1 hs
      have hx : bits .xor .u8 (x.toNat : Int) (y.toNat : Int) = ((x ^^^ y : UInt8).toNat : Int) := by
        rw [u8_xor_nat _ _ (UInt8.toNat_lt _) (UInt8.toNat_lt _), UInt8.toNat_xor]
      obtain ⟨z, hz⟩ : ∃ z, x ^^^ y = z := ⟨_, rfl⟩
      rw [hz] at hx hs
      clear hz
      have HS := Lib.hid hs
      have HB := Lib.hid hbel
      have HO := Lib.hid hown
      have RL := Lib.hid (show ∀ W : World, Rd (W.alloc (.cells #[.int .u8 (z.toNat : Int)] 5)) (some ⟨W.heap.size, 0, none⟩) 1 1 [z] from fun W => rd_lit W _ [z] rfl (by simp [maxLen]) _ rfl)
      obtain ⟨A5, c5, rfl⟩ := own_form hown
      have HOD := Lib.hid (show wo.drew.ownsRow w.heap.size 5 1 (.slice A5 j c5) j (bv ((xr xs ys).take j)) from hown)
      have C0 := Lib.hid (hc0 j hlt)
      have C1 := Lib.hid (hc1 j hlt)
      have L0 := Lib.hid hb0
      have L1 := Lib.hid hb1
      have K0 := Lib.hid (show ∀ X, Below w.heap.size w X → X.cell? ⟨b0, off0 + j, none⟩ = some (.int .u8 (x.toNat : Int)) ∧ X.cell? ⟨b1, off1 + j, none⟩ = some (.int .u8 (y.toNat : Int)) from fun X hX => ⟨(hX.cell (p := ⟨b0, off0 + j, none⟩) hb0).trans (by rw [← hX0]; exact hc0 j hlt), (hX.cell (p := ⟨b1, off1 + j, none⟩) hb1).trans (by rw [← hY0]; exact hc1 j hlt)⟩)
      clear hs hown hbel hc0 hc1 h h' C0 C1 L0 L1 hX0 hY0
      go_wp2
      (go_region_held3 (fun w' => w'.cell? ⟨b0, off0 + j, none⟩ = some (.int .u8 (x.toNat : Int)) ∧ w'.cell? ⟨b1, off1 + j, none⟩ = some (.int .u8 (y.toNat : Int))) (first
        | exact K0.out _ B3.out
        | exact K0.out _ (HB.out.drew.alloc HB.out.size _)
        | exact K0.out _ HB.out.drew
        | exact K0.out _ HB.out) (first
        | (refine step_append_rd (by rfl) (.tmp 11) (.tmp 21) (by rfl) w.heap.size (.slice A5 j c5) j _ (by rfl) (HOD.out.alloc _) (some ⟨wo.heap.size, 0, none⟩) 1 1 [z] (by rfl) (RL.out wo.drew) (by omega) (by have := HB.out.size; simp; omega) ?_; intro v3 w3 o3 g3 at3; have O3 := Lib.hid o3; have B3 := Lib.hid ((HB.out.drew.alloc HB.out.size _).grown g3 (by have := HB.out.size; simp; omega) (fun g hg => (HO.out.lt g hg).1)); clear o3 g3 at3)
        | fail))
      go_wp2
      go_roundw
      case rel => exact ⟨j + 1, by omega, by go_num, by rw [HS.out]; exact O3.out, B3.out⟩
      case measure => simp [intOf]; omega
    · obtain rfl : j = 32 := by omega
      have e : (xr xs ys).take 32 = xr xs ys := List.take_of_length_le (by simp [xr]; omega)
      rw [e] at hown
      clear e
      go_wp2
      go_ret
      exact New.mk hown hbel
end Go.Proofs.YtkpfppiedadmbaaGreatDoor.S15

/-
  What the document's own Num and Prf of layer 14 do. No statement is proved here. (Written by genwp1.py.)
-/
namespace Go.Proofs.YtkpfppiedadmbaaGreatDoor.S15
set_option linter.unusedSimpArgs false
set_option linter.unusedVariables false
set_option maxRecDepth 1024
open Go.RowKit

theorem b32_set (k : UInt8) : (List.replicate 32 (0 : UInt8)).set 31 k = b32 k := by
  unfold b32
  rfl
theorem RdBs.built3At (w : World) (b : Nat) (hb : w.heap.size = b) (T : TypeId) {A A' A'' : Option Addr} {n c n' c' n'' c'' : Nat} {xs ys zs : List UInt8} (h : Rd w A n c xs) (h' : Rd w A' n' c' ys) (h'' : Rd w A'' n'' c'' zs) :
    RdBs (w.alloc (.cells #[.slice A n c, .slice A' n' c', .slice A'' n'' c''] T)) (some ⟨b, 0, none⟩) 3 3 [xs, ys, zs] := by
  subst hb
  exact RdBs.built3 w T h h' h''
set_option maxHeartbeats 1000000 in
theorem rnum_any (k : UInt8) (A : Option Addr) (n c : Nat) (key : List UInt8) (A' : Option Addr) (n' c' : Nat) (text : List UInt8) (w : World) (h : Rd w A n c key) (h' : Rd w A' n' c' text) (hn : n ≤ 100000000) (hn' : n' ≤ 100000000) :
    Calls Tryz.prog 36 #[.int .u8 (k.toNat : Int), .slice A n c, .slice A' n' c'] w (New w.heap.size w (numL k key text)) := by
  obtain ⟨i0, hi, hz0, hz1, hz2⟩ := info_parts Tryz.infoU8
  have HR := Lib.hid h
  have HR' := Lib.hid h'
  have HL := Lib.hid (show [b32 k, key, text].flatten.length ≤ 2000000000 by
    have e1 := h.len
    have e2 := h'.len
    simp [b32]
    omega)
  clear h h'
  go_enter Tryz.func36, Tryz.ntmps36
  go_wp2_with (at_make; refine wpList_make_full _ rfl _ _ 24 rfl w.heap.size 5 i0 (.int .u8 0) 1 Tryz.underlying24 hi hz0 hz1 _ _ _ _ 32 rfl rfl rfl rfl ?b2 ?b3 (Nat.le_refl _) ?_)
  case b2 => rw [hz2]; omega
  case b3 => unfold maxLen; omega
  intro w0 hown0 hgrow0
  rw [bv_zero] at hown0
  have hb0 : Below w.heap.size w w0 := (Below.refl _ _).grown hgrow0 (Nat.le_refl _) (fun k h => by cases h)
  have hc := hown0.cellAt 31 (by omega)
  have hf := hown0.frozenAt 31
  have hs := (hown0.stored 31 (.int .u8 (k.toNat : Int))).1
  rw [bv_set, b32_set] at hs
  have hb1 : Below w.heap.size w (w0.setCell ⟨w.heap.size, 31, none⟩ (.int .u8 (k.toNat : Int))) := hb0.setCell (Nat.le_refl _) _
  rw [bv_at _ _ (by simp)] at hc
  have HS := Lib.hid hs
  have HB := Lib.hid hb1
  clear hown0 hgrow0 hs hb0 hb1
  go_wp2_with (first
    | (go_at_call 37; ((refine (rcat_any _ 3 3 [b32 k, key, text] _ (RdBs.built3At _ _ (by simp) _ (Rd.own HS.out) (HR.out.below HB.out) (HR'.out.below HB.out)) (Nat.le_trans HL.out (by decide))).mono ?_)); rintro e w1 ⟨A1, n1, c1, rfl, o1, b1⟩; have O1 := Lib.hid o1; have B1 := Lib.hid ((HB.out.alloc HB.out.size _).trans (b1.mono (Nat.le_trans HB.out.size (by simp)))); clear o1 b1)
    | (go_at_call 66; ((with_reducible refine (S2.rone_any A1 n1 c1 _ _ (Rd.own O1.out) (by have := own_len O1.out; have := HL.out; omega)).mono ?_); rintro e w2 ⟨A2, n2, c2, rfl, o2, b2⟩; have O2 := Lib.hid o2; have B2 := Lib.hid b2; clear o2 b2)))
  go_ret
  exact New.from B1.out ⟨A2, n2, c2, rfl, O2.out, B2.out⟩
theorem rprf_any (A : Option Addr) (n c : Nat) (key : List UInt8) (A' : Option Addr) (n' c' : Nat) (text : List UInt8) (w : World) (h : Rd w A n c key) (h' : Rd w A' n' c' text) (hn : n ≤ 100000000) (hn' : n' ≤ 100000000) :
    Calls Tryz.prog 33 #[.slice A n c, .slice A' n' c'] w (New w.heap.size w (prfL key text)) := by
  have H := Lib.hid (show Calls Tryz.prog 36 #[.int .u8 3, .slice A n c, .slice A' n' c'] w (New w.heap.size w (prfL key text)) from rnum_any 3 A n c key A' n' c' text w h h' hn hn')
  clear h h'
  go_enter Tryz.func33, Tryz.ntmps33
  go_wp2_with (go_at_call 36; ((with_reducible refine H.out.mono ?_); rintro e w1 ⟨A1, n1, c1, rfl, o1, b1⟩; have O1 := Lib.hid o1; have B1 := Lib.hid b1; clear o1 b1))
  go_ret
  exact ⟨A1, n1, c1, rfl, O1.out, B1.out⟩
end Go.Proofs.YtkpfppiedadmbaaGreatDoor.S15

/-
  What the document's own Bytes of layer 14 does. No statement is proved here. (Written by genwp2.py.)
-/
namespace Go.Proofs.YtkpfppiedadmbaaGreatDoor.S15
set_option linter.unusedSimpArgs false
set_option linter.unusedVariables false
set_option maxRecDepth 1024
open Go.RowKit

abbrev adA (D : Ad) : Array Value := #[.int .u32 (D.layer : Int), .int .u64 (D.tree : Int), .int .u32 (D.kind : Int), .int .u32 (D.a : Int), .int .u32 (D.b : Int), .int .u32 (D.c : Int)]
theorem ad_cells {w' : World} {g : Nat} {T : TypeId} {D : Ad} (h : Bk w' g T (adA D)) : w'.cell? ⟨g, 0, none⟩ = some (.int .u32 (D.layer : Int)) ∧ w'.cell? ⟨g, 1, none⟩ = some (.int .u64 (D.tree : Int)) ∧ w'.cell? ⟨g, 2, none⟩ = some (.int .u32 (D.kind : Int)) ∧ w'.cell? ⟨g, 3, none⟩ = some (.int .u32 (D.a : Int)) ∧ w'.cell? ⟨g, 4, none⟩ = some (.int .u32 (D.b : Int)) ∧ w'.cell? ⟨g, 5, none⟩ = some (.int .u32 (D.c : Int)) :=
  ⟨h.cell 0, h.cell 1, h.cell 2, h.cell 3, h.cell 4, h.cell 5⟩
theorem RdBs.built7 (w : World) (T : TypeId) {A1 A2 A3 A4 A5 A6 A7 : Option Addr} {n1 c1 n2 c2 n3 c3 n4 c4 n5 c5 n6 c6 n7 c7 : Nat} {x1 x2 x3 x4 x5 x6 x7 : List UInt8} (h1 : Rd w A1 n1 c1 x1) (h2 : Rd w A2 n2 c2 x2) (h3 : Rd w A3 n3 c3 x3) (h4 : Rd w A4 n4 c4 x4) (h5 : Rd w A5 n5 c5 x5) (h6 : Rd w A6 n6 c6 x6) (h7 : Rd w A7 n7 c7 x7) :
    RdBs (w.alloc (.cells #[.slice A1 n1 c1, .slice A2 n2 c2, .slice A3 n3 c3, .slice A4 n4 c4, .slice A5 n5 c5, .slice A6 n6 c6, .slice A7 n7 c7] T)) (some ⟨w.heap.size, 0, none⟩) 7 7 [x1, x2, x3, x4, x5, x6, x7] :=
  RdBs.built w _ T [x1, x2, x3, x4, x5, x6, x7] (by simp [maxLen]) fun j hj => by
    match j, hj with
    | 0, _ => exact ⟨A1, n1, c1, rfl, h1⟩
    | 1, _ => exact ⟨A2, n2, c2, rfl, h2⟩
    | 2, _ => exact ⟨A3, n3, c3, rfl, h3⟩
    | 3, _ => exact ⟨A4, n4, c4, rfl, h4⟩
    | 4, _ => exact ⟨A5, n5, c5, rfl, h5⟩
    | 5, _ => exact ⟨A6, n6, c6, rfl, h6⟩
    | 6, _ => exact ⟨A7, n7, c7, rfl, h7⟩
set_option maxHeartbeats 4000000 in
theorem rbytes_any (D : Ad) (hD : D.Ok) (k : Nat) (hk : k < 4294967296) (w : World) :
    Calls Tryz.prog 78 #[adV D, .int .u32 (k : Int)] w (New w.heap.size w (adB D k)) := by
  have T2 := Lib.hid (show ∀ X, Calls Tryz.prog 38 #[.int .u64 (D.tree : Int), .int .i64 8] X (New X.heap.size X (putL D.tree 8)) from fun X => rput_any D.tree 8 X (by omega) hD.tree)
  have T1 := Lib.hid (fun X => rword_any D.layer hD.layer X)
  have T3 := Lib.hid (fun X => rword_any D.kind hD.kind X)
  have T4 := Lib.hid (fun X => rword_any D.a hD.a X)
  have T5 := Lib.hid (fun X => rword_any D.b hD.b X)
  have T6 := Lib.hid (fun X => rword_any D.c hD.c X)
  have T7 := Lib.hid (fun X => rword_any k hk X)
  have HL := Lib.hid (show [putL D.layer 4, putL D.tree 8, putL D.kind 4, putL D.a 4, putL D.b 4, putL D.c 4, putL k 4].flatten.length ≤ 140737488355328 by simp [putL_length])
  unfold adB adV
  generalize putL D.layer 4 = x1 at T1 HL
  generalize putL D.tree 8 = x2 at T2 HL
  generalize putL D.kind 4 = x3 at T3 HL
  generalize putL D.a 4 = x4 at T4 HL
  generalize putL D.b 4 = x5 at T5 HL
  generalize putL D.c 4 = x6 at T6 HL
  generalize putL k 4 = x7 at T7 HL
  clear hD hk
  obtain ⟨g, hg⟩ : ∃ g, g = w.heap.size := ⟨_, rfl⟩
  go_enter Tryz.func78, Tryz.ntmps78
  go_upto_region 1 with (fail)
  obtain ⟨w0, hw0⟩ : ∃ w0, w.alloc (.cells (adA D) 76) = w0 := ⟨_, rfl⟩
  have G0 := Lib.hid (show Bk w0 g 76 (adA D) by rw [← hw0, hg]; exact Bk.new _ _ _)
  have B0 := Lib.hid (show Below w.heap.size w w0 by rw [← hw0]; exact (Below.refl _ _).alloc (Nat.le_refl _) _)
  rw [hw0, ← hg]
  clear hw0 hg
  (go_region_held3 (fun w' => w'.cell? ⟨g, 0, none⟩ = some (.int .u32 (D.layer : Int)) ∧ w'.cell? ⟨g, 1, none⟩ = some (.int .u64 (D.tree : Int)) ∧ w'.cell? ⟨g, 2, none⟩ = some (.int .u32 (D.kind : Int)) ∧ w'.cell? ⟨g, 3, none⟩ = some (.int .u32 (D.a : Int)) ∧ w'.cell? ⟨g, 4, none⟩ = some (.int .u32 (D.b : Int)) ∧ w'.cell? ⟨g, 5, none⟩ = some (.int .u32 (D.c : Int)))
    (first
      | exact ad_cells G8.out
      | exact ad_cells (G7.out.alloc _)
      | exact ad_cells G7.out
      | exact ad_cells G6.out
      | exact ad_cells G5.out
      | exact ad_cells G4.out
      | exact ad_cells G3.out
      | exact ad_cells G2.out
      | exact ad_cells G1.out
      | exact ad_cells G0.out)
    (first
      | (go_at_call 99; ((with_reducible refine (T1.out _).mono ?_)); rintro e w1 ⟨A1, n1, c1, rfl, q, b⟩; have R1 := Lib.hid (Rd.own q); have B1 := Lib.hid ((B0.out.drew).trans (b.mono B0.out.size)); have G1 := Lib.hid ((G0.out.drew).below b (G0.out.drew).lt); clear q b)
      | (go_at_call 38; ((with_reducible refine (T2.out _).mono ?_)); rintro e w2 ⟨A2, n2, c2, rfl, q, b⟩; have R2 := Lib.hid (Rd.own q); have N2 := Lib.hid b; have B2 := Lib.hid ((B1.out).trans (b.mono B1.out.size)); have G2 := Lib.hid ((G1.out).below b (G1.out).lt); clear q b)
      | (go_at_call 99; ((with_reducible refine (T3.out _).mono ?_)); rintro e w3 ⟨A3, n3, c3, rfl, q, b⟩; have R3 := Lib.hid (Rd.own q); have N3 := Lib.hid b; have B3 := Lib.hid ((B2.out).trans (b.mono B2.out.size)); have G3 := Lib.hid ((G2.out).below b (G2.out).lt); clear q b)
      | (go_at_call 99; ((with_reducible refine (T4.out _).mono ?_)); rintro e w4 ⟨A4, n4, c4, rfl, q, b⟩; have R4 := Lib.hid (Rd.own q); have N4 := Lib.hid b; have B4 := Lib.hid ((B3.out).trans (b.mono B3.out.size)); have G4 := Lib.hid ((G3.out).below b (G3.out).lt); clear q b)
      | (go_at_call 99; ((with_reducible refine (T5.out _).mono ?_)); rintro e w5 ⟨A5, n5, c5, rfl, q, b⟩; have R5 := Lib.hid (Rd.own q); have N5 := Lib.hid b; have B5 := Lib.hid ((B4.out).trans (b.mono B4.out.size)); have G5 := Lib.hid ((G4.out).below b (G4.out).lt); clear q b)
      | (go_at_call 99; ((with_reducible refine (T6.out _).mono ?_)); rintro e w6 ⟨A6, n6, c6, rfl, q, b⟩; have R6 := Lib.hid (Rd.own q); have N6 := Lib.hid b; have B6 := Lib.hid ((B5.out).trans (b.mono B5.out.size)); have G6 := Lib.hid ((G5.out).below b (G5.out).lt); clear q b)
      | (go_at_call 99; ((with_reducible refine (T7.out _).mono ?_)); rintro e w7 ⟨A7, n7, c7, rfl, q, b⟩; have R7 := Lib.hid (Rd.own q); have N7 := Lib.hid b; have B7 := Lib.hid ((B6.out).trans (b.mono B6.out.size)); have G7 := Lib.hid ((G6.out).below b (G6.out).lt); clear q b)
      | (go_at_call 37; ((refine (rcat_any _ 7 7 [x1, x2, x3, x4, x5, x6, x7] _ (RdBs.built7 _ _ ((((((R1.out.below N2.out).below N3.out).below N4.out).below N5.out).below N6.out).below N7.out) (((((R2.out.below N3.out).below N4.out).below N5.out).below N6.out).below N7.out) ((((R3.out.below N4.out).below N5.out).below N6.out).below N7.out) (((R4.out.below N5.out).below N6.out).below N7.out) ((R5.out.below N6.out).below N7.out) (R6.out.below N7.out) (R7.out)) HL.out).mono ?_)); rintro e w8 ⟨A8, n8, c8, rfl, q, b⟩; have O8 := Lib.hid q; have M8 := Lib.hid b; have P8 := Lib.hid (B7.out.alloc B7.out.size (.cells #[.slice A1 n1 c1, .slice A2 n2 c2, .slice A3 n3 c3, .slice A4 n4 c4, .slice A5 n5 c5, .slice A6 n6 c6, .slice A7 n7 c7] 24)); have G8 := Lib.hid ((G7.out.alloc _).below b (G7.out.alloc _).lt); clear q b)
      | fail))
  go_wp2
  go_ret
  exact New.from P8.out ⟨A8, n8, c8, rfl, O8.out, M8.out⟩
end Go.Proofs.YtkpfppiedadmbaaGreatDoor.S15

/-
  What the document's own F and H of layer 14 do, of rows of 32 bytes. No statement is proved here. (Written by genwp3.py.)
-/
namespace Go.Proofs.YtkpfppiedadmbaaGreatDoor.S15
set_option linter.unusedSimpArgs false
set_option linter.unusedVariables false
set_option maxRecDepth 1024
open Go.RowKit

theorem adB_len (D : Ad) (k : Nat) : (adB D k).length = 32 := by simp [adB, putL_length]
theorem xr_len {xs ys : List UInt8} (h : xs.length = 32) (h' : ys.length = 32) : (xr xs ys).length = 32 := by simp [xr, h, h']
theorem prf_len (key text : List UInt8) : (prfL key text).length = 32 := num_len _ _ _
set_option maxHeartbeats 4000000 in
theorem rf_core (D : Ad) (As : Option Addr) (cs : Nat) (sd : List UInt8) (Ax : Option Addr) (cx : Nat) (xs : List UInt8) (w : World) (hs : Rd w As 32 cs sd) (hx : Rd w Ax 32 cx xs) (b0 b1 p0 p1 m1 z : List UInt8)
    (h1 : ∀ X, Calls Tryz.prog 78 #[adV D, .int .u32 0] X (New X.heap.size X b0))
    (h2 : ∀ X A c, Rd X As 32 cs sd → Rd X A 32 c b0 → Calls Tryz.prog 33 #[.slice As 32 cs, .slice A 32 c] X (New X.heap.size X p0))
    (h3 : ∀ X, Calls Tryz.prog 78 #[adV D, .int .u32 1] X (New X.heap.size X b1))
    (h4 : ∀ X A c, Rd X As 32 cs sd → Rd X A 32 c b1 → Calls Tryz.prog 33 #[.slice As 32 cs, .slice A 32 c] X (New X.heap.size X p1))
    (h5 : ∀ X A c, Rd X Ax 32 cx xs → Rd X A 32 c p1 → Calls Tryz.prog 79 #[.slice Ax 32 cx, .slice A 32 c] X (New X.heap.size X m1))
    (h6 : ∀ X A c A' c', Rd X A 32 c p0 → Rd X A' 32 c' m1 → Calls Tryz.prog 36 #[.int .u8 0, .slice A 32 c, .slice A' 32 c'] X (New X.heap.size X z))
    (l1 : b0.length = 32)
    (l2 : p0.length = 32)
    (l3 : b1.length = 32)
    (l4 : p1.length = 32)
    (l5 : m1.length = 32)

    : Calls Tryz.prog 95 #[.slice As 32 cs, adV D, .slice Ax 32 cx] w (New w.heap.size w z) := by
  have HS := Lib.hid hs
  have HX := Lib.hid hx
  unfold adV at *
  have H1H := Lib.hid h1
  have H2H := Lib.hid h2
  have H3H := Lib.hid h3
  have H4H := Lib.hid h4
  have H5H := Lib.hid h5
  have H6H := Lib.hid h6
  have L1H := Lib.hid l1
  have L2H := Lib.hid l2
  have L3H := Lib.hid l3
  have L4H := Lib.hid l4
  have L5H := Lib.hid l5
  clear hs hx h1 h2 h3 h4 h5 h6 l1 l2 l3 l4 l5
  obtain ⟨g, hg⟩ : ∃ g, g = w.heap.size := ⟨_, rfl⟩
  go_enter Tryz.func95, Tryz.ntmps95
  go_upto_region 3 with (fail)
  obtain ⟨w0, hw0⟩ : ∃ w0, w.alloc (.cells (adA D) 76) = w0 := ⟨_, rfl⟩
  have G0 := Lib.hid (show Bk w0 g 76 (adA D) by rw [← hw0, hg]; exact Bk.new _ _ _)
  have B0 := Lib.hid (show Below w.heap.size w w0 by rw [← hw0]; exact (Below.refl _ _).alloc (Nat.le_refl _) _)
  rw [hw0, ← hg]
  clear hw0 hg
  (go_region_held3 (fun w' => w'.cell? ⟨g, 0, none⟩ = some (.int .u32 (D.layer : Int)) ∧ w'.cell? ⟨g, 1, none⟩ = some (.int .u64 (D.tree : Int)) ∧ w'.cell? ⟨g, 2, none⟩ = some (.int .u32 (D.kind : Int)) ∧ w'.cell? ⟨g, 3, none⟩ = some (.int .u32 (D.a : Int)) ∧ w'.cell? ⟨g, 4, none⟩ = some (.int .u32 (D.b : Int)) ∧ w'.cell? ⟨g, 5, none⟩ = some (.int .u32 (D.c : Int)))
    (first
      | exact ad_cells G6.out
      | exact ad_cells G5.out
      | exact ad_cells G4.out
      | exact ad_cells G3.out
      | exact ad_cells G2.out
      | exact ad_cells G1.out
      | exact ad_cells G0.out)
    (first
      | (go_at_call 78; ((with_reducible refine (H1H.out _).mono ?_)); rintro e w1 ⟨A1, n1, c1, rfl, q, b⟩; obtain rfl : n1 = 32 := (own_len q).symm.trans (L1H.out); have R1 := Lib.hid (Rd.own q); have B1 := Lib.hid ((B0.out.drew).trans (b.mono B0.out.size)); have G1 := Lib.hid ((G0.out.drew).below b (G0.out.drew).lt); clear q b)
      | (go_at_call 33; ((with_reducible refine (H2H.out _ A1 c1 (HS.out.below B1.out) R1.out).mono ?_)); rintro e w2 ⟨A2, n2, c2, rfl, q, b⟩; obtain rfl : n2 = 32 := (own_len q).symm.trans (L2H.out); have R2 := Lib.hid (Rd.own q); have N2 := Lib.hid b; have B2 := Lib.hid ((B1.out).trans (b.mono B1.out.size)); have G2 := Lib.hid ((G1.out).below b (G1.out).lt); clear q b)
      | (go_at_call 78; ((with_reducible refine (H3H.out _).mono ?_)); rintro e w3 ⟨A3, n3, c3, rfl, q, b⟩; obtain rfl : n3 = 32 := (own_len q).symm.trans (L3H.out); have R3 := Lib.hid (Rd.own q); have N3 := Lib.hid b; have B3 := Lib.hid ((B2.out).trans (b.mono B2.out.size)); have G3 := Lib.hid ((G2.out).below b (G2.out).lt); clear q b)
      | (go_at_call 33; ((with_reducible refine (H4H.out _ A3 c3 (HS.out.below B3.out) R3.out).mono ?_)); rintro e w4 ⟨A4, n4, c4, rfl, q, b⟩; obtain rfl : n4 = 32 := (own_len q).symm.trans (L4H.out); have R4 := Lib.hid (Rd.own q); have N4 := Lib.hid b; have B4 := Lib.hid ((B3.out).trans (b.mono B3.out.size)); have G4 := Lib.hid ((G3.out).below b (G3.out).lt); clear q b)
      | (go_at_call 79; ((with_reducible refine (H5H.out _ A4 c4 (HX.out.below B4.out) R4.out).mono ?_)); rintro e w5 ⟨A5, n5, c5, rfl, q, b⟩; obtain rfl : n5 = 32 := (own_len q).symm.trans (L5H.out); have R5 := Lib.hid (Rd.own q); have N5 := Lib.hid b; have B5 := Lib.hid ((B4.out).trans (b.mono B4.out.size)); have G5 := Lib.hid ((G4.out).below b (G4.out).lt); clear q b)
      | (go_at_call 36; ((with_reducible refine (H6H.out _ A2 c2 A5 c5 ((((R2.out).below N3.out).below N4.out).below N5.out) R5.out).mono ?_)); rintro e w6 ⟨A6, n6, c6, rfl, q, b⟩; have O6 := Lib.hid q; have M6 := Lib.hid b; have G6 := Lib.hid ((G5.out).below b (G5.out).lt); clear q b)
      | fail))
  go_wp2
  go_ret
  exact New.from B5.out ⟨A6, n6, c6, rfl, O6.out, M6.out⟩
theorem rf_any (D : Ad) (hD : D.Ok) (As : Option Addr) (cs : Nat) (sd : List UInt8) (Ax : Option Addr) (cx : Nat) (xs : List UInt8) (w : World) (hs : Rd w As 32 cs sd) (hx : Rd w Ax 32 cx xs) :
    Calls Tryz.prog 95 #[.slice As 32 cs, adV D, .slice Ax 32 cx] w (New w.heap.size w (fL sd D xs)) :=
  rf_core D As cs sd Ax cx xs w hs hx (adB D 0) (adB D 1) (prfL sd (adB D 0)) (prfL sd (adB D 1)) (xr xs (prfL sd (adB D 1))) _
    (fun X => rbytes_any D hD 0 (by omega) X) (fun X A c h h' => rprf_any As 32 cs sd A 32 c _ X h h' (by omega) (by omega))
    (fun X => rbytes_any D hD 1 (by omega) X) (fun X A c h h' => rprf_any As 32 cs sd A 32 c _ X h h' (by omega) (by omega))
    (fun X A c h h' => rxor_any Ax A cx c xs _ X h h') (fun X A c A' c' h h' => rnum_any 0 A 32 c _ A' 32 c' _ X h h' (by omega) (by omega))
    (adB_len D 0) (prf_len _ _) (adB_len D 1) (prf_len _ _) (xr_len hx.len (prf_len _ _))
end Go.Proofs.YtkpfppiedadmbaaGreatDoor.S15
