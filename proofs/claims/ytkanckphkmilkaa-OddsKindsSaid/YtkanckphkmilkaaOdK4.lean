/-
  What the calls of the landed package odds do: rest, and the functions that Left, Days and Clamp hand over. No statement is proved here.
-/
import Derived.Test.YtkanckphkmilkaaOdK3
import Derived.Test.YtkanckphkmilkaaOdH
import Derived.Deep.RegionWith
namespace Go.Proofs.Ytkanckphkmilkaa.F
set_option linter.unusedSimpArgs false
set_option linter.unusedVariables false
set_option maxRecDepth 8192
open Go.RowKit

theorem box_bel (w : World) (o : Obj) : Below w.heap.size w (w.alloc o) := (Below.refl _ _).alloc (Nat.le_refl _) o
theorem rest_ok (t b r x : Nat) (q : Bool) (W : World) (ht : t < 18446744073709551616) (hx : x < 18446744073709551616) (h : x ≤ t) : Calls Try.prog 35 #[cntV t b r x q] W fun e w' => e = .returned (.float .f64 (fI (t - x))) ∧ Below W.heap.size W w' := by
  unfold cntV
  obtain ⟨d, hd⟩ : ∃ d, d = t - x := ⟨_, rfl⟩
  rw [← hd]
  have HY := Lib.hid (fun X => LV.need_yes 1 X)
  have k1 : (t : Int) - (x : Int) = (d : Int) := by omega
  have f1 : floatOfInt .f64 (d : Int) = fI d := floatOf d
  have hd2 : d < 18446744073709551616 := by omega
  have q1 : decide (x ≤ t) = true := decide_eq_true h
  clear hd
  go_enter Try.func35, Try.ntmps35
  go_wp2_with (go_at_call 32; ((with_reducible refine (HY.out _).mono ?_); rintro e w1 ⟨rfl, rfl⟩))
  go_ret
  exact ⟨rfl, box_bel _ _⟩
theorem rest_no (t b r x : Nat) (q : Bool) (W : World) (ht : t < 18446744073709551616) (hx : x < 18446744073709551616) (h : t < x) : Calls Try.prog 35 #[cntV t b r x q] W fun e w' => e = .panicked [LV.wrg 1] ∧ Below W.heap.size W w' := by
  unfold cntV
  have HN := Lib.hid (fun X => LV.need_no 1 X)
  have q1 : decide (x ≤ t) = false := decide_eq_false (by omega)
  clear h
  go_enter Try.func35, Try.ntmps35
  go_wp2_with (go_at_call 32; ((with_reducible refine (HN.out _).mono ?_); rintro e w1 ⟨rfl, rfl⟩))
  exact ⟨rfl, rfl, box_bel _ _⟩
/-- The cells of a counter. -/
def cntC (t b r x : Nat) (q : Bool) : Array Value := #[.int .u64 (t : Int), .int .u64 (b : Int), .int .u64 (r : Int), .int .u64 (x : Int), .bool q]
theorem load_cnt {X : World} {g t b r x : Nat} {q : Bool} (h : Bk X g 37 (cntC t b r x q)) : (loadVar 37 ⟨g, 0, none⟩).run Try.prog X = .ok (cntV t b r x q) X := by
  have c0 := h.cell 0
  have c1 := h.cell 1
  have c2 := h.cell 2
  have c3 := h.cell 3
  have c4 := h.cell 4
  simp only [cntC] at c0 c1 c2 c3 c4
  unfold cntV
  go_simp
theorem left1_ok {g t b r x : Nat} {q : Bool} (X : World) (h : Bk X g 37 (cntC t b r x q)) (ht : t < 18446744073709551616) (hx : x < 18446744073709551616) (hle : x ≤ t) :
    Calls Try.prog 34 #[.pointer (some ⟨g, 0, none⟩)] X fun e w' => ∃ s, e = .returned (.float .f64 s) ∧ Quo (fI (t - x)) (fI t) s ∧ Below X.heap.size X w' := by
  have HR := Lib.hid (fun W => rest_ok t b r x q W ht hx hle)
  have HS := Lib.hid (fun W => share_any (fI (t - x)) (fI t) W)
  have f2 : floatOfInt .f64 (t : Int) = fI t := floatOf t
  have c0 := h.cell 0
  have c1 := h.cell 1
  have c2 := h.cell 2
  have c3 := h.cell 3
  have c4 := h.cell 4
  simp only [cntC] at c0 c1 c2 c3 c4
  have hlt := h.lt
  have hd := Lib.hid (show Below X.heap.size X X.drew from (Below.refl _ _).drew)
  unfold cntV at HR
  generalize fI (t - x) = u at HR HS ⊢
  generalize fI t = v at f2 HS ⊢
  clear h hle
  go_enter Try.func34, Try.ntmps34
  go_wp2
  go_region_with (first
    | (go_at_call 35; ((with_reducible refine (HR.out _).mono ?_); rintro e w1 ⟨rfl, b1⟩; have d0 := (b1.cell (p := ⟨g, 0, none⟩) hlt).trans c0; have B1 := Lib.hid (hd.out.trans (b1.mono (Nat.le_refl _))); clear b1))
    | (go_at_call 17; ((with_reducible refine (HS.out _).mono ?_); rintro e w2 ⟨z, rfl, hz, b2⟩; have HZ := Lib.hid hz; have B2 := Lib.hid (B1.out.trans (b2.mono B1.out.size)); clear hz b2)))
  all_goals (go_wp2; go_ret; exact ⟨_, rfl, HZ.out, B2.out⟩)
theorem days1_ok {g g2 t b r x y : Nat} {q : Bool} (X : World) (h : Bk X g 37 (cntC t b r x q)) (h2 : Bk X g2 22 #[.float .f64 y]) (ht : t < 18446744073709551616) (hx : x < 18446744073709551616) (hle : x ≤ t) :
    Calls Try.prog 37 #[.pointer (some ⟨g, 0, none⟩), .pointer (some ⟨g2, 0, none⟩)] X fun e w' => ∃ s, e = .returned (.float .f64 s) ∧ Quo (fI (t - x)) y s ∧ Below X.heap.size X w' := by
  have HR := Lib.hid (fun W => rest_ok t b r x q W ht hx hle)
  have HS := Lib.hid (fun W => share_any (fI (t - x)) y W)
  have c0 := h.cell 0
  have c1 := h.cell 1
  have c2 := h.cell 2
  have c3 := h.cell 3
  have c4 := h.cell 4
  simp only [cntC] at c0 c1 c2 c3 c4
  have hlt := h.lt
  have hd := Lib.hid (show Below X.heap.size X X.drew from (Below.refl _ _).drew)
  unfold cntV at HR
  have e0 := cell_of_one h2
  have hlt2 := h2.lt
  clear h2
  generalize fI (t - x) = u at HR HS ⊢
  clear h hle
  go_enter Try.func37, Try.ntmps37
  go_wp2
  go_region_with (first
    | (go_at_call 35; ((with_reducible refine (HR.out _).mono ?_); rintro e w1 ⟨rfl, b1⟩; have d0 := (b1.cell (p := ⟨g2, 0, none⟩) hlt2).trans e0; have B1 := Lib.hid (hd.out.trans (b1.mono (Nat.le_refl _))); clear b1))
    | (go_at_call 17; ((with_reducible refine (HS.out _).mono ?_); rintro e w2 ⟨z, rfl, hz, b2⟩; have HZ := Lib.hid hz; have B2 := Lib.hid (B1.out.trans (b2.mono B1.out.size)); clear hz b2)))
  all_goals (go_wp2; go_ret; exact ⟨_, rfl, HZ.out, B2.out⟩)
theorem left1_no {g t b r x : Nat} {q : Bool} (X : World) (h : Bk X g 37 (cntC t b r x q)) (ht : t < 18446744073709551616) (hx : x < 18446744073709551616) (hle : t < x) :
    Calls Try.prog 34 #[.pointer (some ⟨g, 0, none⟩)] X fun e w' => e = .panicked [LV.wrg 1] ∧ Below X.heap.size X w' := by
  have HN := Lib.hid (fun W => rest_no t b r x q W ht hx hle)
  have f2 : floatOfInt .f64 (t : Int) = fI t := floatOf t
  have c0 := h.cell 0
  have c1 := h.cell 1
  have c2 := h.cell 2
  have c3 := h.cell 3
  have c4 := h.cell 4
  simp only [cntC] at c0 c1 c2 c3 c4
  have hlt := h.lt
  have hd := Lib.hid (show Below X.heap.size X X.drew from (Below.refl _ _).drew)
  unfold cntV at HN
  generalize fI t = v at f2
  clear h hle
  go_enter Try.func34, Try.ntmps34
  go_wp2
  refine HR.h_top (fun Y => Y = X.drew) 7 (by kernel_rfl) rfl ?_
  refine HR.h_take 0 (.agg #[.int .u64 (t : Int), .int .u64 (b : Int), .int .u64 (r : Int), .int .u64 (x : Int), .bool q]) rfl (by kernel_rfl) (by kernel_rfl) (by kernel_rfl) (fun _ _ _ h => h) (by rfl) rfl (fun Y hY => ?_) ?_
  · subst hY; go_simp
  simp only [Act.put, List.setIfInBounds_toArray, List.set_cons_zero, List.set_cons_succ]
  refine HR.h_take 2 (.pointer (some ⟨g, 0, none⟩)) rfl (by kernel_rfl) (by kernel_rfl) (by kernel_rfl) (fun _ _ _ h => h) (by rfl) rfl (fun Y hY => ?_) ?_
  · subst hY; go_simp
  simp only [Act.put, List.setIfInBounds_toArray, List.set_cons_zero, List.set_cons_succ]
  refine HR.h_take 3 (.int .u64 (t : Int)) rfl (by kernel_rfl) (by kernel_rfl) (by kernel_rfl) (fun _ _ _ h => h) (by rfl) rfl (fun Y hY => ?_) ?_
  · subst hY; go_simp
  simp only [Act.put, List.setIfInBounds_toArray, List.set_cons_zero, List.set_cons_succ]
  refine HR.h_take 4 (.float .f64 v) rfl (by kernel_rfl) (by kernel_rfl) (by kernel_rfl) (fun _ _ _ h => h) (by rfl) rfl (fun Y hY => ?_) ?_
  · subst hY; go_simp
  simp only [Act.put, List.setIfInBounds_toArray, List.set_cons_zero, List.set_cons_succ]
  refine HR.h_any [1] (by kernel_rfl) (by simp) (HR.one_of ?_)
  refine HR.h_panic 35 #[.agg #[.int .u64 (t : Int), .int .u64 (b : Int), .int .u64 (r : Int), .int .u64 (x : Int), .bool q]] rfl (by rfl) (by go_simp) ((HN.out _).mono ?_)
  rintro e w1 ⟨rfl, b1⟩
  exact ⟨_, rfl, rfl, rfl, hd.out.trans (b1.mono (Nat.le_refl _))⟩
theorem days1_no {g g2 t b r x y : Nat} {q : Bool} (X : World) (h : Bk X g 37 (cntC t b r x q)) (h2 : Bk X g2 22 #[.float .f64 y]) (ht : t < 18446744073709551616) (hx : x < 18446744073709551616) (hle : t < x) :
    Calls Try.prog 37 #[.pointer (some ⟨g, 0, none⟩), .pointer (some ⟨g2, 0, none⟩)] X fun e w' => e = .panicked [LV.wrg 1] ∧ Below X.heap.size X w' := by
  have HN := Lib.hid (fun W => rest_no t b r x q W ht hx hle)
  have c0 := h.cell 0
  have c1 := h.cell 1
  have c2 := h.cell 2
  have c3 := h.cell 3
  have c4 := h.cell 4
  simp only [cntC] at c0 c1 c2 c3 c4
  have hlt := h.lt
  have hd := Lib.hid (show Below X.heap.size X X.drew from (Below.refl _ _).drew)
  unfold cntV at HN
  have e0 := cell_of_one h2
  have hlt2 := h2.lt
  clear h2
  clear h hle
  go_enter Try.func37, Try.ntmps37
  go_wp2
  refine HR.h_top (fun Y => Y = X.drew) 5 (by kernel_rfl) rfl ?_
  refine HR.h_take 0 (.agg #[.int .u64 (t : Int), .int .u64 (b : Int), .int .u64 (r : Int), .int .u64 (x : Int), .bool q]) rfl (by kernel_rfl) (by kernel_rfl) (by kernel_rfl) (fun _ _ _ h => h) (by rfl) rfl (fun Y hY => ?_) ?_
  · subst hY; go_simp
  simp only [Act.put, List.setIfInBounds_toArray, List.set_cons_zero, List.set_cons_succ]
  refine HR.h_take 2 (.float .f64 y) rfl (by kernel_rfl) (by kernel_rfl) (by kernel_rfl) (fun _ _ _ h => h) (by rfl) rfl (fun Y hY => ?_) ?_
  · subst hY; go_simp
  simp only [Act.put, List.setIfInBounds_toArray, List.set_cons_zero, List.set_cons_succ]
  refine HR.h_any [1] (by kernel_rfl) (by simp) (HR.one_of ?_)
  refine HR.h_panic 35 #[.agg #[.int .u64 (t : Int), .int .u64 (b : Int), .int .u64 (r : Int), .int .u64 (x : Int), .bool q]] rfl (by rfl) (by go_simp) ((HN.out _).mono ?_)
  rintro e w1 ⟨rfl, b1⟩
  exact ⟨_, rfl, rfl, rfl, hd.out.trans (b1.mono (Nat.le_refl _))⟩
end Go.Proofs.Ytkanckphkmilkaa.F
