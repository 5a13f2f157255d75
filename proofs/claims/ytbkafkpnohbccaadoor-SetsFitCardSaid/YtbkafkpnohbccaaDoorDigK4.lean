/-
  What the landed digits' calls do over their iterator: Of, Lack. No statement is proved here.
-/
import Derived.Test.YtbkafkpnohbccaaDoorDigK3
namespace Go.Proofs.YtbkafkpnohbccaaDoor.S7
set_option linter.unusedSimpArgs false
set_option linter.unusedVariables false
open Go.RowKit Go.Shelf
attribute [local go_sem] Oper.semAt_some

theorem two_boxes (w : World) (A : Option Addr) (n c : Nat) (v : Int) :
    Boxed ((w.alloc (.cells #[.slice A n c] 47)).alloc (.cells #[.int .i64 v] 3)) w.heap.size 47 (.slice A n c) ∧ Boxed ((w.alloc (.cells #[.slice A n c] 47)).alloc (.cells #[.int .i64 v] 3)) (w.heap.size + 1) 3 (.int .i64 v) ∧
      Below w.heap.size w ((w.alloc (.cells #[.slice A n c] 47)).alloc (.cells #[.int .i64 v] 3)) := by
  refine ⟨(Boxed.new w _ _).alloc _, ?_, ((Below.refl _ w).alloc (Nat.le_refl _) _).alloc (by simp) _⟩
  have := Boxed.new (w.alloc (.cells #[.slice A n c] 47)) 3 (.int .i64 v)
  rwa [World.size_alloc] at this
theorem NewI.from {w W : World} {xs : List Nat} {e : Ending} {w' : World} (hb : Below w.heap.size w W) (h : NewI W.heap.size W xs e w') : NewI w.heap.size w xs e w' := by
  obtain ⟨A, n, c, he, ho, hbb⟩ := h
  exact ⟨A, n, c, he, own_basei ho hb.size, hb.trans (hbb.mono hb.size)⟩
theorem of_new (A : Option Addr) (n c : Nat) (xs : List UInt8) (v : Int) (w : World) (hok : WOk w) (hr : Rd w A n c xs) (hn : n ≤ 1000000) :
    Calls Tryd.prog 32 #[.slice A n c, .int .i64 v] w (NewI w.heap.size w (ofW v xs)) := by
  obtain ⟨b1, b2, hb⟩ := two_boxes w A n c v
  have HA := Lib.hid (append_any A n c xs v w _ hok hr hn w.heap.size (w.heap.size + 1) hb b1 b2 (by omega))
  have HB := Lib.hid hb
  obtain ⟨W1, hW1⟩ : ∃ W1, (w.alloc (.cells #[.slice A n c] 47)).alloc (.cells #[.int .i64 v] 3) = W1 := ⟨_, rfl⟩
  have HE := Lib.hid (fun W => each_any A n c v W)
  have HW := Lib.hid hW1
  rw [hW1] at HA HB
  clear b1 b2 hb hok hr hW1
  have HC := Lib.hid (show Calls Tryd.prog 38 #[.func (.func 39) #[] #[.pointer (some ⟨w.heap.size + 1, 0, none⟩), .pointer (some ⟨w.heap.size, 0, none⟩)]] W1 (NewI W1.heap.size W1 (ofW v xs)) from by
    go_enter Tryd.func38, Tryd.ntmps38
    go_wp2_with (go_at_call 40; ((with_reducible refine HA.out.mono ?_); rintro e w2 ⟨A2, n2, c2, rfl, o2, d2⟩))
    go_ret
    exact ⟨A2, n2, c2, rfl, o2, d2⟩)
  clear HA
  go_enter Tryd.func32, Tryd.ntmps32
  go_wp2_with (first
    | (go_at_call 37; ((with_reducible refine (HE.out _).mono ?_); rintro e w2 ⟨rfl, h2⟩; rw [HW.out] at h2; subst h2))
    | (go_at_call 38; ((with_reducible refine HC.out.mono ?_); rintro e w2 ⟨A2, n2, c2, rfl, o2, d2⟩)))
  go_ret
  exact NewI.from HB.out ⟨A2, n2, c2, rfl, o2, d2⟩

theorem lk_map_snoc (w : Int) (pre : List (DgtW w)) (x : DgtW w) : lk w.toNat ((pre ++ [x]).map (·.1)) = lk w.toNat (pre.map (·.1)) + (2 ^ w.toNat - 1 - x.1) := by
  rw [List.map_append, lk_append]
  simp [lk]
/-- What the digits that came lack. -/
def lkD (w : Int) (pre : List (DgtW w)) : Value := .int .i64 ((lk w.toNat (pre.map (·.1)) : Nat) : Int)

set_option maxRecDepth 100000 in
set_option maxHeartbeats 2000000 in
theorem lack_any (A : Option Addr) (n c : Nat) (xs : List UInt8) (v : Int) (w : World) (hok : WOk w) (hr : Rd w A n c xs) (hn : n ≤ 1000000) :
    Calls Tryd.prog 31 #[.slice A n c, .int .i64 v] w fun e w' => e = .returned (.int .i64 ((lk v.toNat (ofW v xs) : Nat) : Int)) ∧ Below w.heap.size w w' := by
  refine (callsIn_wide (n := 3)).1 ?_
  have HOK := Lib.hid hok
  have HR := Lib.hid hr
  have HE := Lib.hid (fun W => each_any A n c v W)
  have HLN := Lib.hid (show (ofW v xs).length ≤ 8000000 by
    have := ofW_len v xs
    rw [hr.len] at this
    omega)
  obtain ⟨D, hD⟩ : ∃ D, D = ofW v xs := ⟨_, rfl⟩
  have HD := Lib.hid hD
  rw [← hD] at HLN ⊢
  clear hr hok hD
  have hmix : Tryd.prog.follows .mixedOrders = true := by kernel_rfl
  refine callsIn_of_wp_marks Tryd.func31 rfl trivial ?_ rfl
  simp only [Tryd.ntmps31, List.size_toArray, List.length_cons, List.length_nil, Nat.reduceAdd, Nat.reduceSub, Array.replicate_succ, Array.replicate_zero, List.push_toArray, List.append_toArray, List.nil_append, List.cons_append]
  gi_wp2_with (refine ⟨trivial, ?_⟩; gi_at_call 37; refine (callsIn_wide.2 (HE.out _)).mono ?_; rintro e w1 ⟨rfl, rfl⟩)
  have bV := Boxed.new w 3 (.int .i64 v)
  have bS := Boxed.new (w.alloc (.cells #[.int .i64 v] 3)) 3 (.int .i64 0)
  have b1 := Boxed.new ((w.alloc (.cells #[.int .i64 v] 3)).alloc (.cells #[.int .i64 0] 3)) 47 (.slice A n c)
  have b2 := Boxed.new (((w.alloc (.cells #[.int .i64 v] 3)).alloc (.cells #[.int .i64 0] 3)).alloc (.cells #[.slice A n c] 47)) 3 (.int .i64 v)
  simp only [World.size_alloc] at bS b1 b2
  have bV := ((bV.alloc (.cells #[.int .i64 0] 3)).alloc (.cells #[.slice A n c] 47)).alloc (.cells #[.int .i64 v] 3)
  have bS := (bS.alloc (.cells #[.slice A n c] 47)).alloc (.cells #[.int .i64 v] 3)
  have b1 := b1.alloc (.cells #[.int .i64 v] 3)
  have hB0 : Below w.heap.size w ((((w.alloc (.cells #[.int .i64 v] 3)).alloc (.cells #[.int .i64 0] 3)).alloc (.cells #[.slice A n c] 47)).alloc (.cells #[.int .i64 v] 3)) := ((((Below.refl _ w).alloc (Nat.le_refl _) _).alloc (by simp) _).alloc (by simp; omega) _).alloc (by simp; omega) _
  obtain ⟨wL, hL⟩ : ∃ wL, (((w.alloc (.cells #[.int .i64 v] 3)).alloc (.cells #[.int .i64 0] 3)).alloc (.cells #[.slice A n c] 47)).alloc (.cells #[.int .i64 v] 3) = wL := ⟨_, rfl⟩
  have hsz : wL.heap.size = w.heap.size + 4 := by rw [← hL]; simp
  rw [hL] at hB0 bV bS b1 b2 ⊢
  clear hL
  refine wpIn_rangeFunc_ownG rfl (by omega) (gf := 39) (lb := #[.pointer (some ⟨w.heap.size + 1 + 1 + 1, 0, none⟩), .pointer (some ⟨w.heap.size + 1 + 1, 0, none⟩)]) rfl trivial (enters_of Tryd.func39 (by kernel_rfl) rfl)
    (each_stops (3 - 1) (by omega) w A n c xs v HOK.out HR.out (w.heap.size + 1 + 1) (w.heap.size + 1 + 1 + 1) wL hB0 b1 b2) kpC_t (kpC_b (by omega)) (Below.refl _ _) (fun _ => rfl)
    (fun pre W => (Boxed W (w.heap.size + 1) 3 (lkD v pre) ∧ Boxed W w.heap.size 3 (.int .i64 v)) ∧ Below w.heap.size w W)
    (fun _ _ _ => False)
    (OwnFrom.and (OwnFrom.and (Own.from (boxed_own _ _ (fun pre : List (DgtW v) => lkD v pre)) _) (Own.from (boxed_own _ _ (fun pre : List (DgtW v) => .int .i64 v)) _)) (ownFrom_below (Nat.le_refl _) (by omega)))
    (fun _ _ _ _ _ hs _ _ => hs)
    ⟨⟨bS, bV⟩, hB0⟩
    (fun x => { tmps := #[.slice A n c, .int .i64 v, undef, .pointer (some ⟨w.heap.size, 0, none⟩), .int .i64 0, .pointer (some ⟨w.heap.size + 1, 0, none⟩), .int .i64 (x.1 : Int), .slice A n c, .int .i64 v, .func (.func 39) #[] #[.pointer (some ⟨w.heap.size + 1 + 1 + 1, 0, none⟩), .pointer (some ⟨w.heap.size + 1 + 1, 0, none⟩)], .int .i64 (x.1 : Int), undef, undef, undef, undef, undef, undef, undef], defers := [] }) ?assign ?body ?done ?stop
  case assign =>
    intro l x W K hK
    gi_wp2
    exact hK
  case body =>
    rintro l pre ⟨x, hm, hx⟩ W ⟨⟨hu, hv2⟩, hB⟩ hlt
    have hpl : pre.length < 8000000 := by have := HLN.out; rw [← HD.out] at hlt; omega
    obtain ⟨vn, rfl, hv⟩ := wid_of hm
    have HGR := Lib.hid (fun X => great_any vn hv X)
    obtain ⟨P, hP⟩ : ∃ P, P = 2 ^ vn := ⟨_, rfl⟩
    have hP1 : P ≤ 256 := by rw [hP]; rcases hv with h | h | h | h <;> subst h <;> decide
    have hxP : x < P := by rw [hP]; rw [Int.toNat_natCast] at hx; exact hx
    obtain ⟨L, hL⟩ : ∃ L, L = lk ((vn : Int).toNat) (pre.map (·.1)) := ⟨_, rfl⟩
    have hLb : L ≤ 256 * 8000000 := by
      have h2 := lk_le ((vn : Int).toNat) (pre.map (·.1))
      rw [← hL, List.length_map, Int.toNat_natCast, ← hP] at h2
      have h3 : (P - 1) * pre.length ≤ 256 * 8000000 := Nat.mul_le_mul (by omega) (by omega)
      omega
    have HN := Lib.hid (show lkD vn (pre ++ [(⟨x, hm, hx⟩ : DgtW vn)]) = .int .i64 ((L + (P - 1 - x) : Nat) : Int) by
      rw [lkD, lk_map_snoc, ← hL]
      show Value.int .i64 ((L + (2 ^ ((vn : Int).toNat) - 1 - x) : Nat) : Int) = _
      rw [Int.toNat_natCast, ← hP])
    have HF := Lib.hid (show ((L + (P - 1 - x) : Nat) : Int) = (L : Int) + (((P - 1 : Nat) : Int) - (x : Int)) by omega)
    rw [← hP] at HGR
    have hu : Boxed W (w.heap.size + 1) 3 (.int .i64 (L : Int)) := by rw [hL]; exact hu
    have hc := hu.cell
    have hf := hu.frozen
    have hcv := hv2.cell
    have HU := Lib.hid hu
    have HV2 := Lib.hid hv2
    obtain ⟨G, hG⟩ : ∃ G : Nat, G = P - 1 := ⟨_, rfl⟩
    rw [← hG] at HGR HF HN
    have w3 : IntKind.i64.wrap ((G : Int) - (x : Int)) = (G : Int) - (x : Int) := by rw [IntKind.wrap_i64]; omega
    have w4 : IntKind.i64.wrap ((L : Int) + ((G : Int) - (x : Int))) = (L : Int) + ((G : Int) - (x : Int)) := by rw [IntKind.wrap_i64]; omega
    clear hu hv2 hP hL hG
    gi_wp2
    obtain ⟨V, hV⟩ : ∃ V, V = Value.int .i64 ((L : Int) + ((G : Int) - (x : Int))) := ⟨_, rfl⟩
    have HEND := Lib.hid (show KeepsFrom wL.heap.size W (W.setCell ⟨w.heap.size + 1, 0, none⟩ V).drew ∧ KpC w.heap.size (w.heap.size + 1 + 1 + 1) W (W.setCell ⟨w.heap.size + 1, 0, none⟩ V).drew ∧
        (Boxed (W.setCell ⟨w.heap.size + 1, 0, none⟩ V).drew (w.heap.size + 1) 3 (lkD vn (pre ++ [(⟨x, hm, hx⟩ : DgtW vn)])) ∧ Boxed (W.setCell ⟨w.heap.size + 1, 0, none⟩ V).drew w.heap.size 3 (.int .i64 (vn : Int))) ∧ Below w.heap.size w (W.setCell ⟨w.heap.size + 1, 0, none⟩ V).drew from by
      have hb := ((Below.refl w.heap.size W).setCell (p := ⟨w.heap.size + 1, 0, none⟩) (by simp) V).drew
      refine ⟨((KeepsOthers.setCell W _ V).trans (KeepsOthers.drew _)).from _, ⟨hb, fun o ho _ => (Below.heap_setCell _ _ _ _ (by simp; omega)).trans ho⟩, ⟨?_, (Below.heap_setCell _ _ _ _ (by simp)).trans HV2.out⟩, hB.trans hb⟩
      rw [HN.out, HF.out, ← hV]
      exact HU.out.set V)
    rw [hV] at HEND
    clear hV
    gi_region_with_o (refine ⟨trivial, ?_⟩; refine (callsIn_wide.2 (HGR.out _)).mono ?_; rintro e w1 ⟨rfl, rfl⟩)
    all_goals exact HEND.out
  case done =>
    rintro D' ys W hD' hys ⟨⟨hu, hv2⟩, hB⟩ hK
    rw [lkD, hys, ← HD.out] at hu
    have hc := hu.cell
    gi_wp2
    refine ⟨by simp, .inl ⟨_, _, rfl, run_takeDeferred hK, ?_⟩⟩
    exact ⟨_, results_tmp rfl _ _ _, rfl, hB.trans (belowK_b (w := w) (Nat.le_refl _) W D' _ _ (by omega) hK rfl rfl)⟩
  case stop =>
    rintro D c pre W _ _ h _
    exact h.elim
end Go.Proofs.YtbkafkpnohbccaaDoor.S7
