/-
  What the document's own calls of layer 7 do, of every width. No statement is proved here.
-/
import Derived.Test.YtfhbnfhmicaklaaDoorDigR4
namespace Go.Proofs.YtfhbnfhmicaklaaDoor.S7
set_option linter.unusedSimpArgs false
set_option linter.unusedVariables false
open Go.RowKit

theorem rofW (A : Option Addr) (n c : Nat) (xs : List UInt8) (w : Int) (W : World) (hr : Rd W A n c xs) (hm : n ≤ 1000000) :
    Calls Tryd.prog 15 #[.slice A n c, .int .i64 w] W (GivesI W.heap.size W (ofW w xs)) := by
  cases hc : mayB w with
  | false =>
    rw [ofW, hc, if_neg (by simp)]
    exact (rof_none A n c w W hc).mono fun e w' ⟨h1, h2⟩ => ⟨none, 0, h1, Ri.nil_ _, by rw [← h2]; exact Below.refl _ _⟩
  | true =>
    obtain ⟨v, rfl, hv⟩ := wid_of hc
    rw [ofW, hc, if_pos rfl, Int.toNat_natCast]
    exact (rof_any A n c xs v W hr hv hm).mono fun e w' h => .of_new h
theorem rlackW (A : Option Addr) (n c : Nat) (xs : List UInt8) (w : Int) (W : World) (hr : Rd W A n c xs) (hm : n ≤ 1000000) :
    Calls Tryd.prog 17 #[.slice A n c, .int .i64 w] W fun e w' => e = .returned (.int .i64 ((lackW w xs : Nat) : Int)) ∧ Below W.heap.size W w' := by
  cases hc : mayB w with
  | false =>
    rw [lackW, hc, if_neg (by simp)]
    exact (rlack_none A n c w W hc).mono fun e w' ⟨h1, h2⟩ => ⟨h1, by rw [← h2]; exact Below.refl _ _⟩
  | true =>
    obtain ⟨v, rfl, hv⟩ := wid_of hc
    rw [lackW, hc, if_pos rfl, Int.toNat_natCast]
    exact rlack_any A n c xs v W hr hv hm
theorem rallW (A : Option Addr) (n c : Nat) (xs : List UInt8) (w : Int) (W : World) (hr : Rd W A n c xs) :
    Calls Tryd.prog 19 #[.slice A n c, .int .i64 w] W (GivesI W.heap.size W (allW w xs)) := by
  have hl := hr.len
  cases hc : okS (n : Int) w with
  | false =>
    rw [allW, hl, hc, if_neg (by simp)]
    exact (rall_none A n c w W hc (Nat.le_trans hr.cap hr.max)).mono fun e w' ⟨h1, h2⟩ => ⟨none, 0, h1, Ri.nil_ _, by rw [← h2]; exact Below.refl _ _⟩
  | true =>
    obtain ⟨m, v, hm, rfl, h0, h1, hv⟩ := okS_of hc
    rw [allW, hl, hc, if_pos rfl, Int.toNat_natCast]
    exact (rall_any A n c xs v W hr hv (by omega) (by omega)).mono fun e w' h => .of_new h
end Go.Proofs.YtfhbnfhmicaklaaDoor.S7
