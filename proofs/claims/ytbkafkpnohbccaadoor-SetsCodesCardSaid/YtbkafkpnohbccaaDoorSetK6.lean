/-
  What the landed sets' count and the lists of codes do. No statement is proved here.
-/
import Derived.Test.YtbkafkpnohbccaaDoorSetK5
import Derived.Test.YtbkafkpnohbccaaDoorURow
import Derived.Deep.DrawnRows
import Derived.Deep.AppendLies
import Derived.RegionTactic
namespace Go.Proofs.YtbkafkpnohbccaaDoor.S8
set_option linter.unusedSimpArgs false
set_option linter.unusedVariables false
open Go.RowKit S7

def cntL (F n k : Nat) : List Nat := (List.range n).map fun j => if j < k then F + j else 0
theorem cntL_length (F n k : Nat) : (cntL F n k).length = n := by simp [cntL]
theorem cntL_zero (F n : Nat) : cntL F n 0 = List.replicate n 0 := by
  apply List.ext_getElem
  · simp [cntL]
  · intro i h1 h2
    simp [cntL]
theorem cntL_set (F n k : Nat) (h : k < n) : (uv (cntL F n k)).set k (.int .u32 ((F + k : Nat) : Int)) = uv (cntL F n (k + 1)) := by
  apply List.ext_getElem?
  intro j
  by_cases hj : j < n
  · rw [List.getElem?_set]
    by_cases e : k = j
    · subst e
      simp [uv, cntL, h]
    · have : (j < k) = (j < k + 1) := by
        apply propext
        omega
      simp [uv, cntL, e, hj, this]
  · rw [List.getElem?_eq_none (by simp [uv, cntL]; omega), List.getElem?_eq_none (by simp [uv, cntL]; omega)]
set_option maxHeartbeats 1000000 in
theorem count_any (F E n : Nat) (hE : 4 * E = n) (hn : n ≤ 20) (hF : F + 20 ≤ 4294967296) (w : World) :
    Calls Tryd.prog 27 #[.int .u32 (F : Int), .int .i64 (E : Int)] w fun e w' => ∃ (A : Option Addr) (c : Nat), e = .returned (.slice A n c) ∧ w'.ownsRow w.heap.size 22 1 (.slice A n c) n (uv (cntL F n n)) ∧ Below w.heap.size w w' := by
  obtain ⟨i0, hi, hz0, hz1, hz2⟩ := info_parts Tryd.infoU32
  have q : (4 : Int) * (E : Int) = (n : Int) := by omega
  go_enter Tryd.func27, Tryd.ntmps27
  go_wp2_with (at_make; refine wpList_make_full _ rfl _ _ 37 rfl w.heap.size 22 i0 (.int .u32 0) 1 Tryd.underlying37 hi hz0 hz1 _ _ _ _ n rfl rfl rfl rfl ?b2 ?b3 (Nat.le_refl _) ?_)
  case b2 => rw [hz2]; omega
  case b3 => unfold maxLen; omega
  intro w0 hown0 hgrow0
  rw [uv_zero, ← cntL_zero F n] at hown0
  have hb0 : Below w.heap.size w w0 := (Below.refl _ _).grown hgrow0 (Nat.le_refl _) (fun k h => by cases h)
  clear hgrow0
  go_wp2
  go_loopw [12] (fun i wr => ∃ k : Nat, k ≤ n ∧ i = .int .i64 (k : Int) ∧
      wr.ownsRow w.heap.size 22 1 (.slice (some ⟨w.heap.size, 0, none⟩) n n) n (uv (cntL F n k)) ∧ Below w.heap.size w wr)
    (fun i _ => n - (intOf i).toNat)
  case atStart => exact ⟨0, Nat.zero_le _, rfl, hown0, hb0⟩
  case round =>
    obtain ⟨k, hk, rfl, hown, hbel⟩ := hrel
    by_cases hlt : k < n
    · have hc := hown.cellAt k (by omega)
      have hf := hown.frozenAt k
      have hs := hown.stored k
      rw [uv_at _ _ (by rw [cntL_length]; omega)] at hc
      obtain ⟨X, hX⟩ : ∃ X, X = F + k := ⟨_, rfl⟩
      have q2 : (F : Int) + (k : Int) = (X : Int) := by omega
      have q3 : X < 4294967296 := by omega
      have HX := Lib.hid hX
      clear hX q hE
      go_wp2
      go_roundw
      case rel =>
        exact ⟨k + 1, by omega, by go_num, by rw [← cntL_set F n k hlt, ← HX.out]; exact (hs _).1, hbel.setCell (Nat.le_refl _) _⟩
      case measure => simp [intOf]; omega
    · obtain rfl : k = n := by omega
      go_wp2
      go_ret
      exact ⟨_, _, rfl, hown, hbel⟩
theorem news_ru {w : World} {ad : Addr} {m c : Nat} {ys : List Nat} (hr : Ru w (some ad) m c ys) : ∀ j u, (uv ys)[j]? = some u → w.cell? (ad.add j) = some u := by
  intro j u hj
  have hl := hr.len
  have hjl : j < ys.length := by
    rcases Nat.lt_or_ge j ys.length with h | h
    · exact h
    · rw [List.getElem?_eq_none (by simpa [uv_length] using h)] at hj; cases hj
  obtain ⟨b, off, e, _, hc⟩ := hr.at_ (by omega)
  injection e with e
  subst e
  have := hc j (by omega)
  rw [uv_at ys j hjl] at hj
  injection hj with hj
  subst hj
  have e9 : (⟨b, off, none⟩ : Addr).add j = ⟨b, off + j, none⟩ := by unfold Addr.add; split <;> simp_all
  rw [e9, this]
  simp [List.getD, hjl]
theorem append_ru {w : World} {ops : Array Oper} {rest : List Oper} {o : Oper} {a : Act} {Q : Exit → Act → World → Prop} (hgd : o.guard = none) (s x : Operand)
    (ho : o.op = .call { callee := .builtin .append, args := #[s, x], argTypes := #[37, 37] })
    (base : Nat) (v : Value) (n : Nat) (xs : List Nat) (hs : a.eval s = v) (hown : w.ownsRow base 22 1 v n (uv xs))
    (ad : Addr) (m c : Nat) (ys : List Nat) (hx : a.eval x = .slice (some ad) m c) (hr : Ru w (some ad) m c ys) (hb : n + m ≤ 1000000000000) (hbase : base ≤ w.heap.size)
    (h : ∀ v' w', w'.ownsRow base 22 1 v' (n + m) (uv (xs ++ ys)) → w.grownBy w' v.ownBlock → wpList Tryd.prog ops Q rest (a.put o.dst v') w') : wpList Tryd.prog ops Q (o :: rest) a w := by
  obtain ⟨i0, hi, hz0, hz1, hz2⟩ := info_parts Tryd.infoU32
  refine wpList_append_own w hgd s x _ ho base 22 i0 (.int .u32 0) 1 4 Tryd.underlying37 hi hz0 hz1 hz2 rfl (by omega) v n (uv xs) hs hown ad m c (uv ys) hx (by simp [uv_length, hr.len]) (news_ru hr) (uv_one _)
    (by simp only [maxLen]; omega) (by omega) hbase fun v' w' h1 h2 _ => h v' w' (by rw [uv_append]; exact h1) h2
theorem own_belowU {w w' : World} {B e size n : Nat} {v : Value} {xs : List Value} (h : w.ownsRow B e size v n xs) (hb : Below w.heap.size w w') : w'.ownsRow B e size v n xs :=
  h.kept (row := none) ⟨hb.os, hb.tape, hb.output, hb.size, fun i hi _ => hb.block i hi⟩ (by cases hh : v.ownBlock <;> simp)
theorem cnt_ots : cntL 1 16 16 = otsL := by decide
theorem cnt_tree : cntL 5 20 20 ++ cntL 4026531841 16 16 = treeL := by decide
theorem codes_ots (w : World) : Calls Tryd.prog 16 #[] w (GivesU w.heap.size w otsL) := by
  have HC := Lib.hid (show ∀ X, Calls Tryd.prog 27 #[.int .u32 1, .int .i64 4] X fun e w' => ∃ (A : Option Addr) (c : Nat), e = .returned (.slice A 16 c) ∧ w'.ownsRow X.heap.size 22 1 (.slice A 16 c) 16 (uv otsL) ∧ Below X.heap.size X w' from fun X => by
    have h := count_any 1 4 16 rfl (by omega) (by omega) X
    rw [cnt_ots] at h
    exact h)
  have HL := Lib.hid (show otsL.length = 16 by decide)
  obtain ⟨L, hL⟩ : ∃ L, L = otsL := ⟨_, rfl⟩
  rw [← hL] at HC HL ⊢
  clear hL
  go_enter Tryd.func16, Tryd.ntmps16
  go_wp2_with (go_at_call 27; ((with_reducible refine (HC.out _).mono ?_); rintro e w1 ⟨A, c, rfl, o1, b1⟩; have O1 := Lib.hid o1; have B1 := Lib.hid b1; clear o1 b1))
  go_ret
  exact ⟨A, c, by rw [HL.out]; rfl, by rw [HL.out]; exact Ru.own O1.out, B1.out⟩
theorem codes_tree (w : World) : Calls Tryd.prog 17 #[] w (GivesU w.heap.size w treeL) := by
  obtain ⟨L1, h1⟩ : ∃ L, L = cntL 5 20 20 := ⟨_, rfl⟩
  obtain ⟨L2, h2⟩ : ∃ L, L = cntL 4026531841 16 16 := ⟨_, rfl⟩
  have HA := Lib.hid (show ∀ X, Calls Tryd.prog 27 #[.int .u32 5, .int .i64 5] X fun e w' => ∃ (A : Option Addr) (c : Nat), e = .returned (.slice A 20 c) ∧ w'.ownsRow X.heap.size 22 1 (.slice A 20 c) 20 (uv L1) ∧ Below X.heap.size X w' from fun X => by
    have h := count_any 5 5 20 rfl (by omega) (by omega) X
    rw [← h1] at h
    exact h)
  have HB := Lib.hid (show ∀ X, Calls Tryd.prog 27 #[.int .u32 4026531841, .int .i64 4] X fun e w' => ∃ (A : Option Addr) (c : Nat), e = .returned (.slice A 16 c) ∧ w'.ownsRow X.heap.size 22 1 (.slice A 16 c) 16 (uv L2) ∧ Below X.heap.size X w' from fun X => by
    have h := count_any 4026531841 4 16 rfl (by omega) (by omega) X
    rw [← h2, show ((4026531841 : Nat) : Int) = 4026531841 from by omega] at h
    exact h)
  have hT : L1 ++ L2 = treeL := by rw [h1, h2]; exact cnt_tree
  have HL := Lib.hid (show treeL.length = 36 by decide)
  rw [← hT] at HL ⊢
  clear h1 h2 hT
  go_enter Tryd.func17, Tryd.ntmps17
  go_wp2_with (first
    | (go_at_call 27; ((with_reducible refine (HA.out _).mono ?_); rintro e w1 ⟨A1, c1, rfl, o1, b1⟩; have O1 := Lib.hid o1; have B1 := Lib.hid b1; clear o1 b1))
    | (go_at_call 27; ((with_reducible refine (HB.out _).mono ?_); rintro e w2 ⟨A2, c2, rfl, o2, b2⟩; have R2 := Lib.hid (Ru.own o2); have O2 := Lib.hid (own_belowU O1.out b2); have B2 := Lib.hid (B1.out.trans (b2.mono B1.out.size)); obtain ⟨b, off, rfl, _, _⟩ := R2.out.at_ (by omega); clear o2 b2))
    | (at_builtin; refine append_ru (by rfl) (.tmp 1) (.tmp 2) (by rfl) w.heap.size _ 20 L1 (by rfl) O2.out ⟨b, off, none⟩ 16 c2 L2 (by rfl) R2.out (by omega) ?hbase ?happ))
  case hbase => exact B2.out.size
  case happ =>
    intro v3 w3 o3 g3
    have O3 := Lib.hid o3
    have B3 := Lib.hid (B2.out.grown g3 B2.out.size (fun g hg => (O2.out.lt g hg).1))
    clear o3 g3
    obtain ⟨A, c, rfl⟩ := own_form O3.out
    go_wp2
    go_ret
    exact ⟨A, c, by rw [HL.out]; rfl, by rw [HL.out]; exact Ru.own O3.out, B3.out⟩
end Go.Proofs.YtbkafkpnohbccaaDoor.S8
