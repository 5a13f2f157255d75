/-
  What the calls of the landed package odds do: Clamp, Left, Days. No statement is proved here. (Written by genodk6.py.)
-/
import Derived.Test.YtkanckphkmilkaaOdK5
namespace Go.Proofs.Ytkanckphkmilkaa.F
set_option linter.unusedSimpArgs false
set_option linter.unusedVariables false
set_option maxRecDepth 8192
open Go.RowKit

theorem nan_is : isN 9221120237041090561 = true ∧ 9221120237041090561 < 18446744073709551616 := by decide
theorem clamp_any (x l h : Nat) (W : World) : Calls Try.prog 21 #[.float .f64 x, .float .f64 l, .float .f64 h] W fun e w' => ∃ r, e = .returned (.tuple #[.float .f64 r, .bool (clampB x l h)]) ∧ ClampIs x l h r ∧ Below W.heap.size W w' := by
  have hmf : ∀ (fn : Fn) (first cap : Array Value) (w : World), (Instr.makeFunc fn first cap).run Try.prog w = .ok (.func fn first cap) w := fun _ _ _ _ => rfl
  obtain ⟨w0, hw0⟩ : ∃ w0, ((W.alloc (.cells #[.float .f64 x] 22)).alloc (.cells #[.float .f64 l] 22)).alloc (.cells #[.float .f64 h] 22) = w0 := ⟨_, rfl⟩
  obtain ⟨p, hp⟩ : ∃ p, W.heap.size = p := ⟨_, rfl⟩
  have B0 := Lib.hid (show Below W.heap.size W w0 by rw [← hw0]; exact (((Below.refl _ _).alloc (Nat.le_refl _) _).alloc (by simp) _).alloc (by simp; omega) _)
  have KX := Lib.hid (show Bk w0 p 22 #[.float .f64 x] by rw [← hw0]; exact ((Bk.newAt _ _ _ _ hp).alloc _).alloc _)
  have KL := Lib.hid (show Bk w0 (p + 1) 22 #[.float .f64 l] by rw [← hw0]; exact (Bk.newAt _ _ _ _ (by simp [hp])).alloc _)
  have KH := Lib.hid (show Bk w0 (p + 2) 22 #[.float .f64 h] by rw [← hw0]; exact Bk.newAt _ _ _ _ (by simp [hp]))
  have HE := Lib.hid (fun (X : World) (hX : Below w0.heap.size w0 X) => clamp1_any X (KX.out.below hX KX.out.lt) (KL.out.below hX KL.out.lt) (KH.out.below hX KH.out.lt))
  cases hc : clampB x l h with
  | true =>
    obtain ⟨r, hr⟩ : ∃ r, r = if okey x < okey l then l else if okey h < okey x then h else x := ⟨_, rfl⟩
    have HF := Lib.hid (number_clamp w0 (fun z => z = r) (fun X hX => (HE.out X hX).mono fun e w' ⟨h1, h2⟩ => ⟨r, by unfold ClampEnd at h1; rw [hc, if_pos rfl, ← hr] at h1; exact h1, rfl, h2⟩))
    have HI := Lib.hid (show ClampIs x l h r by unfold ClampIs; rw [hc, if_pos rfl, hr])
    clear hr hc HE
    go_enter Try.func21, Try.ntmps21
    go_wp2_with (go_at_call 30; (refine HF.out.mono ?_; rintro e w1 ⟨z, rfl, rfl, b1⟩; have B1 := Lib.hid (B0.out.trans (b1.mono B0.out.size)); clear b1))
    go_ret2
    exact ⟨_, rfl, HI.out, B1.out⟩
  | false =>
    have HF := Lib.hid (number_clamp_bad w0 (fun X hX => (HE.out X hX).mono fun e w' ⟨h1, h2⟩ => ⟨by unfold ClampEnd at h1; rw [hc, if_neg (by simp)] at h1; exact h1, h2⟩))
    have HI := Lib.hid (show ClampIs x l h 9221120237041090561 by unfold ClampIs; rw [hc, if_neg (by simp)]; exact nan_is)
    clear hc HE
    go_enter Try.func21, Try.ntmps21
    go_wp2_with (go_at_call 30; (refine HF.out.mono ?_; rintro e w1 ⟨rfl, b1⟩; have B1 := Lib.hid (B0.out.trans (b1.mono B0.out.size)); clear b1))
    go_ret2
    exact ⟨_, rfl, HI.out, B1.out⟩
theorem left_any (t b r x : Nat) (q : Bool) (W : World) (ht : t < 18446744073709551616) (hx : x < 18446744073709551616) : Calls Try.prog 22 #[cntV t b r x q] W fun e w' => ∃ s, e = .returned (.float .f64 s) ∧ LeftIs t x s ∧ Below W.heap.size W w' := by
  have hmf : ∀ (fn : Fn) (first cap : Array Value) (w : World), (Instr.makeFunc fn first cap).run Try.prog w = .ok (.func fn first cap) w := fun _ _ _ _ => rfl
  obtain ⟨w0, hw0⟩ : ∃ w0, W.alloc (.cells #[.int .u64 (t : Int), .int .u64 (b : Int), .int .u64 (r : Int), .int .u64 (x : Int), .bool q] 37) = w0 := ⟨_, rfl⟩
  obtain ⟨p, hp⟩ : ∃ p, W.heap.size = p := ⟨_, rfl⟩
  have B0 := Lib.hid (show Below W.heap.size W w0 by rw [← hw0]; exact (Below.refl _ _).alloc (Nat.le_refl _) _)
  have KC := Lib.hid (show Bk w0 p 37 (cntC t b r x q) by rw [← hw0]; exact Bk.newAt _ _ _ _ hp)
  unfold cntV
  by_cases hle : x ≤ t
  · have HF := Lib.hid (number_left w0 (fun s => Quo (fI (t - x)) (fI t) s) (fun X hX => left1_ok X (KC.out.below hX KC.out.lt) ht hx hle))
    have HI := Lib.hid (fun s (hs : (fun s => Quo (fI (t - x)) (fI t) s) s) => show LeftIs t x s by unfold LeftIs; rw [if_pos hle]; exact hs)
    clear hle
    go_enter Try.func22, Try.ntmps22
    go_wp2_with (go_at_call 30; (refine HF.out.mono ?_; rintro e w1 ⟨z, rfl, hz, b1⟩; have HZ := Lib.hid (HI.out z hz); have B1 := Lib.hid (B0.out.trans (b1.mono B0.out.size)); clear b1 hz))
    go_ret
    exact ⟨_, rfl, HZ.out, B1.out⟩
  · have HF := Lib.hid (number_left_bad w0 (fun X hX => left1_no X (KC.out.below hX KC.out.lt) ht hx (by omega)))
    have HI := Lib.hid (show LeftIs t x 9221120237041090561 by unfold LeftIs; rw [if_neg hle]; exact nan_is)
    clear hle
    go_enter Try.func22, Try.ntmps22
    go_wp2_with (go_at_call 30; (refine HF.out.mono ?_; rintro e w1 ⟨rfl, b1⟩; have B1 := Lib.hid (B0.out.trans (b1.mono B0.out.size)); clear b1))
    go_ret
    exact ⟨_, rfl, HI.out, B1.out⟩
theorem days_any (t b r x : Nat) (q : Bool) (y : Nat) (W : World) (ht : t < 18446744073709551616) (hx : x < 18446744073709551616) : Calls Try.prog 24 #[cntV t b r x q, .float .f64 y] W fun e w' => ∃ s, e = .returned (.float .f64 s) ∧ DaysIs t x y s ∧ Below W.heap.size W w' := by
  have hmf : ∀ (fn : Fn) (first cap : Array Value) (w : World), (Instr.makeFunc fn first cap).run Try.prog w = .ok (.func fn first cap) w := fun _ _ _ _ => rfl
  obtain ⟨w0, hw0⟩ : ∃ w0, (W.alloc (.cells #[.int .u64 (t : Int), .int .u64 (b : Int), .int .u64 (r : Int), .int .u64 (x : Int), .bool q] 37)).alloc (.cells #[.float .f64 y] 22) = w0 := ⟨_, rfl⟩
  obtain ⟨p, hp⟩ : ∃ p, W.heap.size = p := ⟨_, rfl⟩
  have B0 := Lib.hid (show Below W.heap.size W w0 by rw [← hw0]; exact ((Below.refl _ _).alloc (Nat.le_refl _) _).alloc (by simp) _)
  have KC := Lib.hid (show Bk w0 p 37 (cntC t b r x q) by rw [← hw0]; exact (Bk.newAt _ _ _ _ hp).alloc _)
  have KY := Lib.hid (show Bk w0 (p + 1) 22 #[.float .f64 y] by rw [← hw0]; exact Bk.newAt _ _ _ _ (by simp [hp]))
  unfold cntV
  by_cases hle : x ≤ t
  · have HF := Lib.hid (number_days w0 (fun s => Quo (fI (t - x)) y s) (fun X hX => days1_ok X (KC.out.below hX KC.out.lt) (KY.out.below hX KY.out.lt) ht hx hle))
    have HI := Lib.hid (fun s (hs : (fun s => Quo (fI (t - x)) y s) s) => show DaysIs t x y s by unfold DaysIs; rw [if_pos hle]; exact hs)
    clear hle
    go_enter Try.func24, Try.ntmps24
    go_wp2_with (go_at_call 30; (refine HF.out.mono ?_; rintro e w1 ⟨z, rfl, hz, b1⟩; have HZ := Lib.hid (HI.out z hz); have B1 := Lib.hid (B0.out.trans (b1.mono B0.out.size)); clear b1 hz))
    go_ret
    exact ⟨_, rfl, HZ.out, B1.out⟩
  · have HF := Lib.hid (number_days_bad w0 (fun X hX => days1_no X (KC.out.below hX KC.out.lt) (KY.out.below hX KY.out.lt) ht hx (by omega)))
    have HI := Lib.hid (show DaysIs t x y 9221120237041090561 by unfold DaysIs; rw [if_neg hle]; exact nan_is)
    clear hle
    go_enter Try.func24, Try.ntmps24
    go_wp2_with (go_at_call 30; (refine HF.out.mono ?_; rintro e w1 ⟨rfl, b1⟩; have B1 := Lib.hid (B0.out.trans (b1.mono B0.out.size)); clear b1))
    go_ret
    exact ⟨_, rfl, HI.out, B1.out⟩
end Go.Proofs.Ytkanckphkmilkaa.F
