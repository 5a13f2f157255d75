/-
  What the first question of each statement of layer 7 answers: true; nothing that was there is written. No statement is proved here.
-/
import Derived.Test.YtfhbnfhmicaklaaDoorDigA
import Derived.OwnWalk
namespace Go.Proofs.YtfhbnfhmicaklaaDoor.S7
set_option linter.unusedSimpArgs false
set_option linter.unusedVariables false
open Go.RowKit

theorem all_32 : (allW 4 (List.replicate 32 0)).length = 67 := by
  rw [allW, if_pos (by decide), show (4 : Int).toNat = 4 from rfl, allL_length 4 (.inr (.inr (.inl rfl))) _ (by simp) (by simp)]
  decide +kernel
theorem of_31 : ofW 4 [31] = [1, 15] := by decide +kernel
theorem lack_31 : lackW 4 [31] = 14 := by decide +kernel
theorem sh_32 : shW 32 4 = (64, 3, 4) := by decide +kernel
set_option maxHeartbeats 4000000 in
theorem awake_true (M : DC) (w : World) (hk : M.ok w) : Calls Tryd.prog 8 #[] w fun e w' => e = .returned (.bool true) ∧ Below w.heap.size w w' := by
  have HK := Lib.hid hk
  have HS := Lib.hid (show ∀ X, M.ok X → Calls Tryd.prog 9 #[.int .i64 32, .int .i64 4] X fun e w' => e = .returned (.tuple #[.int .i64 64, .int .i64 3, .int .i64 4]) ∧ Below X.heap.size X w' from fun X g => by have h := M.shape 32 4 X g; rw [sh_32] at h; exact h)
  have HO := Lib.hid (show ∀ X A c, M.ok X → Rd X A 1 c [31] → Calls Tryd.prog 14 #[.slice A 1 c, .int .i64 4] X (GivesI X.heap.size X [1, 15]) from fun X A c g h => by have h9 := M.of A 1 c [31] 4 X g h (by omega); rw [of_31] at h9; exact h9)
  have HL := Lib.hid (show ∀ X A c, M.ok X → Rd X A 1 c [31] → Calls Tryd.prog 16 #[.slice A 1 c, .int .i64 4] X fun e w' => e = .returned (.int .i64 14) ∧ Below X.heap.size X w' from fun X A c g h => by have h9 := M.lack A 1 c [31] 4 X g h (by omega); rw [lack_31] at h9; exact h9)
  obtain ⟨Z, hZ⟩ : ∃ Z, Z = allW 4 (List.replicate 32 0) := ⟨_, rfl⟩
  have HZL := Lib.hid (show Z.length = 67 by rw [hZ]; exact all_32)
  have HA := Lib.hid (show ∀ X A c, M.ok X → Rd X A 32 c (List.replicate 32 0) → Calls Tryd.prog 18 #[.slice A 32 c, .int .i64 4] X (GivesI X.heap.size X Z) from fun X A c g h => by rw [hZ]; exact M.all A 32 c _ 4 X g h (by omega))
  have HM8 := Lib.hid (show ∀ X, M.ok X → Calls Tryd.prog 11 #[.int .i64 8] X fun e w' => e = .returned (.bool true) ∧ Below X.heap.size X w' from fun X g => M.may 8 X g)
  have HM3 := Lib.hid (show ∀ X, M.ok X → Calls Tryd.prog 11 #[.int .i64 3] X fun e w' => e = .returned (.bool false) ∧ Below X.heap.size X w' from fun X g => M.may 3 X g)
  clear hk hZ
  go_enter Tryd.func8, Tryd.ntmps8
  go_wp2_with (first
    | (go_at_call 9; ((with_reducible refine (HS.out _ HK.out).mono ?_); rintro e w1 ⟨rfl, b1⟩; have B1 := Lib.hid b1; clear b1))
    | (go_at_call 14; ((with_reducible refine (HO.out _ (some ⟨w1.heap.size, 0, none⟩) 1 (M.bel HK.out (B1.out.alloc B1.out.size _)) (rd_lit8 w1 _ [31] rfl (by simp [maxLen]) _ rfl)).mono ?_); intro e w2 h2; obtain ⟨A2, c2, rfl, r2, b2⟩ := h2; have R2 := Lib.hid r2; have B2 := Lib.hid ((B1.out.alloc B1.out.size _).trans (b2.mono (by have := B1.out.size; simp; omega))); clear r2 b2))
    | (go_at_call 13; ((with_reducible refine (rints_true A2 (some ⟨w2.heap.size, 0, none⟩) 2 c2 2 [1, 15] _ ((R2.out.alloc _)) (ri_lit w2 _ [1, 15] rfl (by simp [maxLen]) _ rfl)).mono ?_); rintro e w3 ⟨rfl, b3⟩; have B3 := Lib.hid ((B2.out.alloc B2.out.size _).trans (b3.mono (by have := B2.out.size; simp; omega))); clear b3))
    | (go_at_call 16; ((with_reducible refine (HL.out _ (some ⟨w3.heap.size, 0, none⟩) 1 (M.bel HK.out (B3.out.alloc B3.out.size _)) (rd_lit8 w3 _ [31] rfl (by simp [maxLen]) _ rfl)).mono ?_); rintro e w4 ⟨rfl, b4⟩; have B4 := Lib.hid ((B3.out.alloc B3.out.size _).trans (b4.mono (by have := B3.out.size; simp; omega))); clear b4))
    | (at_make; refine make_zz (by kernel_rfl) _ _ rfl w4.heap.size 32 rfl rfl rfl rfl (by omega) (Nat.le_refl _) ?_; intro w5 o5 g5; have O5 := Lib.hid o5; have B5 := Lib.hid (B4.out.grown g5 B4.out.size (fun g hg => by cases hg)); clear o5 g5)
    | (go_at_call 18; ((with_reducible refine (HA.out _ (some ⟨w4.heap.size, 0, none⟩) 32 (M.bel HK.out B5.out) (Rd.own O5.out)).mono ?_); intro e w6 h6; obtain ⟨A6, c6, rfl, r6, b6⟩ := h6; rw [HZL.out]; have B6 := Lib.hid (B5.out.trans (b6.mono B5.out.size)); clear r6 b6))
    | (go_at_call 11; ((with_reducible refine (HM8.out _ (M.bel HK.out B6.out)).mono ?_); rintro e w7 ⟨rfl, b7⟩; have B7 := Lib.hid (B6.out.trans (b7.mono B6.out.size)); clear b7))
    | (go_at_call 11; ((with_reducible refine (HM3.out _ (M.bel HK.out B7.out)).mono ?_); rintro e w8 ⟨rfl, b8⟩; have B8 := Lib.hid (B7.out.trans (b8.mono B7.out.size)); clear b8)))
  go_ret
  exact ⟨rfl, B8.out⟩
end Go.Proofs.YtfhbnfhmicaklaaDoor.S7
