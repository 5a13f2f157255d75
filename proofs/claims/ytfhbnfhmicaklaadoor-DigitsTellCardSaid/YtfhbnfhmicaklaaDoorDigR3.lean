/-
  What the document's own calls of layer 7 do, on: Lack of no width. No statement is proved here.
-/
import Derived.Test.YtfhbnfhmicaklaaDoorDigR2
namespace Go.Proofs.YtfhbnfhmicaklaaDoor.S7
set_option linter.unusedSimpArgs false
set_option linter.unusedVariables false
open Go.RowKit

theorem rlack_none (A : Option Addr) (n c : Nat) (w : Int) (W : World) (hw : mayB w = false) :
    Calls Tryd.prog 17 #[.slice A n c, .int .i64 w] W fun e w' => e = .returned (.int .i64 0) ∧ W = w' := by
  have HM := Lib.hid (show ∀ X, Calls Tryd.prog 12 #[.int .i64 w] X fun e w' => e = .returned (.bool false) ∧ X = w' from fun X => by rw [← hw]; exact rmay_any w X)
  have HO := Lib.hid (rof_none A n c w W hw)
  clear hw
  by_cases h0 : 0 < w
  · have q0 : decide (0 < w) = true := by simpa using h0
    go_enter Tryd.func17, Tryd.ntmps17
    go_wp2_with (go_at_call 15; ((with_reducible refine HO.out.mono ?_); rintro e w1 ⟨rfl, rfl⟩))
    go_loopw [6, 7] (fun m i wr => i = .int .i64 0 ∧ wr = W) (fun _ _ _ => 0)
    case atStart => exact ⟨rfl, rfl⟩
    case round =>
      obtain ⟨rfl, rfl⟩ := hrel
      go_wp2_with (go_at_call 12; ((with_reducible refine (HM.out _).mono ?_); rintro e w2 ⟨rfl, rfl⟩))
      obtain ⟨wo, rfl⟩ : ∃ wo : World, wo = wr := ⟨_, rfl⟩
      go_loop [8, 9] (fun s i => i = .int .i64 0 ∧ s = .int .i64 0) (fun _ _ => 0)
      case atStart => exact ⟨rfl, rfl⟩
      case round =>
        obtain ⟨rfl, rfl⟩ := hrel
        go_wp2
        go_ret
        exact ⟨rfl, rfl⟩
  · have q0 : decide (0 < w) = false := by simpa using h0
    go_enter Tryd.func17, Tryd.ntmps17
    go_wp2_with (go_at_call 15; ((with_reducible refine HO.out.mono ?_); rintro e w1 ⟨rfl, rfl⟩))
    go_loopw [6, 7] (fun m i wr => i = .int .i64 0 ∧ wr = W) (fun _ _ _ => 0)
    case atStart => exact ⟨rfl, rfl⟩
    case round =>
      obtain ⟨rfl, rfl⟩ := hrel
      go_wp2
      obtain ⟨wo, rfl⟩ : ∃ wo : World, wo = wr := ⟨_, rfl⟩
      go_loop [8, 9] (fun s i => i = .int .i64 0 ∧ s = .int .i64 0) (fun _ _ => 0)
      case atStart => exact ⟨rfl, rfl⟩
      case round =>
        obtain ⟨rfl, rfl⟩ := hrel
        go_wp2
        go_ret
        exact ⟨rfl, rfl⟩
end Go.Proofs.YtfhbnfhmicaklaaDoor.S7
