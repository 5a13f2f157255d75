/-
  What the first question of each statement of layer 3 answers: true; nothing that was there is written.
-/
import Derived.Test.YtimcflbhddlpcaaDoorHash3V
import Derived.Test.YtimcflbhddlpcaaDoorRTurnV
import Derived.Test.YtimcflbhddlpcaaDoorTool
import Derived.Lib.SmallJoins
namespace Go.Proofs.YtimcflbhddlpcaaDoor.S5
set_option linter.unusedSimpArgs false
set_option linter.unusedVariables false
open Go.RowKit

theorem k_0 (w : World) (hk : KOk w) : Calls Tryd.prog 11 #[.int .i64 0] w fun e w' => e = .returned (.int .u64 4794697086780616226) ∧ w = w' := k_any 0 w hk
theorem abc_head : (sum [97, 98, 99]).take 8 = [0xdd, 0xaf, 0x35, 0xa1, 0x93, 0x61, 0x7a, 0xba] := by rw [sum_abc]; rfl
def headL : List UInt8 := [0xdd, 0xaf, 0x35, 0xa1, 0x93, 0x61, 0x7a, 0xba]
theorem rd_head (w : World) : Rd (w.alloc (.cells #[.int .u8 221, .int .u8 175, .int .u8 53, .int .u8 161, .int .u8 147, .int .u8 97, .int .u8 122, .int .u8 186] 5)) (some ⟨w.heap.size, 0, none⟩) 8 8 headL := rd_lit w _ headL rfl (by simp [maxLen, headL]) _ rfl
theorem rd_ab (w : World) : RdBs (((w.alloc (.cells #[.int .u8 97] 5 (1, 2))).alloc (.cells #[.int .u8 98, .int .u8 99] 5 (2, 3))).alloc (.cells #[.slice (some ⟨w.heap.size, 0, none⟩) 1 1, .slice (some ⟨w.heap.size + 1, 0, none⟩) 2 2] 22))
    (some ⟨w.heap.size + 1 + 1, 0, none⟩) 2 2 [[97], [98, 99]] :=
  RdBs.built2At _ _ (by simp) _ ((rd_mark w #[.int .u8 97] [97] (1, 2) rfl (by simp [maxLen])).alloc _) (rd_markAt _ #[.int .u8 98, .int .u8 99] [98, 99] (2, 3) _ (by simp) rfl (by simp [maxLen]))
set_option maxHeartbeats 2000000 in
theorem awake_true (w : World) (hk : GOk w) : Calls Tryd.prog 7 #[] w fun e w' => e = .returned (.bool true) ∧ Below w.heap.size w w' := by
  obtain ⟨U, hU⟩ : ∃ U, U = sum [97, 98, 99] := ⟨_, rfl⟩
  have HH := Lib.hid (show U.take 8 = headL by rw [hU]; exact abc_head)
  have HL := Lib.hid (show U.length = 64 by rw [hU]; exact sum_length _)
  have HO := Lib.hid (show ∀ W A c, Rd W A 3 c [97, 98, 99] → GOk W → Calls Tryd.prog 9 #[.slice A 3 c] W (New W.heap.size W U) from fun W A c h g => by rw [hU]; exact one_any A 3 c _ W h g (by omega))
  have HP := Lib.hid (show ∀ W A c, RdBs W A 2 c [[97], [98, 99]] → GOk W → Calls Tryd.prog 13 #[.slice A 2 c] W (New W.heap.size W U) from fun W A c h g => by
    have h3 := parts_any A 2 c [[97], [98, 99]] W h g (by simp)
    rw [show ([[97], [98, 99]] : List (List UInt8)).flatten = [97, 98, 99] from rfl] at h3
    rw [hU]
    exact h3)
  have HK := Lib.hid hk
  clear hk hU
  have kc := fun (w : World) (C : Array Value) (n c : Nat) => Lib.run_convert_bytes_const (P := Tryd.prog) w 22 5 C n c Tryd.underlying22 Tryd.underlying5
  have kc2 := fun (w : World) (o : Obj) (C : Array Value) (n c : Nat) => Joins.run_convert_bytes_const_at (P := Tryd.prog) (w.alloc o) 22 5 C n c (w.heap.size + 1) (by simp) Tryd.underlying22 Tryd.underlying5
  go_enter Tryd.func7, Tryd.ntmps7
  go_wp2_with (first
    | (go_at_call 9; ((with_reducible refine (HO.out _ (some ⟨w.heap.size, 0, none⟩) 3 (rd_mark w _ [97, 98, 99] _ rfl (by simp [maxLen])) (HK.out.below (Nat.le_refl _) ((Below.refl _ _).alloc (Nat.le_refl _) _))).mono ?_); intro e w1 h1; obtain ⟨A1, c1, rfl, r1, b1⟩ := new_len h1; have B1 := Lib.hid (((Below.refl w.heap.size w).alloc (Nat.le_refl _) _).trans (b1.mono (by simp))); have hl1 := HL.out; rw [hl1] at r1; rw [hl1]; have R1 := Lib.hid r1; have hcap := r1.cap; have hcs := fun W => run_cutSlH (A := A1) (n := 64) (c := c1) (m := 8) (h := 8) rfl (by omega) W; have hcs' := fun W => run_cutSlHAt (A := A1) (n := 64) (c := c1) (m := 8) (h := 8) rfl (by omega) W; clear h1 r1 b1 hl1))
    | (go_at_call 8; ((with_reducible refine (rsame_true A1 (some ⟨w1.heap.size, 0, none⟩) 8 c1 8 8 (U.take 8) headL _ ((R1.out.take (by omega)).alloc _) (rd_head w1) HH.out).mono ?_); rintro e w2 ⟨rfl, b2⟩; have B2 := Lib.hid ((B1.out.alloc B1.out.size _).trans (b2.mono (by have := B1.out.size; simp; omega))); have R2 := Lib.hid ((R1.out.alloc _).below b2); clear b2))
    | (go_at_call 13; ((with_reducible refine (HP.out _ (some ⟨w2.heap.size + 1 + 1, 0, none⟩) 2 (rd_ab w2) (HK.out.below (Nat.le_refl _) (((B2.out.alloc B2.out.size _).alloc (by have := B2.out.size; simp; omega) _).alloc (by have := B2.out.size; simp; omega) _))).mono ?_); intro e w3 h3; obtain ⟨A3, c3, rfl, r3, b3⟩ := new_len h3; have R3 := Lib.hid r3; have B3 := Lib.hid ((((B2.out.alloc B2.out.size _).alloc (by have := B2.out.size; simp; omega) _).alloc (by have := B2.out.size; simp; omega) _).trans (b3.mono (by have := B2.out.size; simp; omega))); have R13 := Lib.hid ((((R2.out.alloc _).alloc _).alloc _).below b3); clear h3 r3 b3))
    | (go_at_call 8; ((with_reducible refine (rsame_true A3 A1 _ c3 64 c1 U U _ R3.out R13.out rfl).mono ?_); rintro e w4 ⟨rfl, b4⟩; have B4 := Lib.hid (B3.out.trans (b4.mono B3.out.size)); clear b4))
    | (go_at_call 11; ((with_reducible refine (k_0 _ (HK.out.below (Nat.le_refl _) B4.out).k).mono ?_); rintro e w5 ⟨rfl, rfl⟩)))
  go_ret
  exact ⟨rfl, B4.out⟩
end Go.Proofs.YtimcflbhddlpcaaDoor.S5
