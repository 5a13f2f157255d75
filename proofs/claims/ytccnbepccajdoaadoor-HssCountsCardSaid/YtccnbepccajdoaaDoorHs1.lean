/-
  What the landed leave.Must, lms.setsOf, lms.May, hss.otsOf and hss.treeOf do. No statement is proved here.
-/
import Derived.Test.YtccnbepccajdoaaDoorSetM
import Derived.Test.YtccnbepccajdoaaDoorHp
import Derived.Deep.RegionHeld3
import Derived.Deep.Cut
namespace Go.Proofs.YtccnbepccajdoaaDoor.S13
set_option linter.unusedSimpArgs false
set_option linter.unusedVariables false
open Go.RowKit S7 S8

theorem done_yes (w : World) : Calls Tryd.prog 43 #[.int .i64 0] w fun e w' => e = .returned (.tuple #[]) ∧ w = w' := by
  have HN := Lib.hid (fun X => LV.need_yes 0 X)
  go_enter Tryd.func43, Tryd.ntmps43
  go_wp2_with (go_at_call 16; ((with_reducible refine (HN.out _).mono ?_); rintro e w1 ⟨rfl, rfl⟩))
  go_end0
  exact ⟨rfl, rfl⟩
theorem done_no (k : Int) (hk : k ≠ 0) (w : World) : Calls Tryd.prog 43 #[.int .i64 k] w fun e w' => e = .panicked [LV.wrg k] ∧ w = w' := by
  have HN := Lib.hid (fun X => LV.need_no k X)
  have q : (k == 0) = false := by simpa using hk
  clear hk
  go_enter Tryd.func43, Tryd.ntmps43
  go_wp2_with (go_at_call 16; ((with_reducible refine (HN.out _).mono ?_); rintro e w1 ⟨rfl, rfl⟩))
  exact ⟨rfl, rfl, rfl⟩
theorem must_ots_yes (a b c d e f : Int) (w : World) : Calls Tryd.prog 39 #[otsV a b c d e f, .int .i64 0] w fun e' w' => e' = .returned (otsV a b c d e f) ∧ Below w.heap.size w w' := by
  have HN := Lib.hid (fun X => done_yes X)
  unfold otsV
  go_enter Tryd.func39, Tryd.ntmps39
  go_wp2_with (go_at_call 43; ((with_reducible refine (HN.out _).mono ?_); rintro e w1 ⟨rfl, rfl⟩))
  exact bodyPost_ret (v := .agg #[.int .u32 a, .int .i64 b, .int .i64 c, .int .i64 d, .int .i64 e, .int .i64 f]) (by simp [results, Tryd.results39, go_sem]) rfl ⟨rfl, two_bel _ _ _⟩
theorem must_ots_no (k : Int) (hk : k ≠ 0) (a b c d e f : Int) (w : World) : Calls Tryd.prog 39 #[otsV a b c d e f, .int .i64 k] w fun e' w' => e' = .panicked [LV.wrg k] ∧ Below w.heap.size w w' := by
  have HN := Lib.hid (fun X => done_no k hk X)
  unfold otsV
  clear hk
  go_enter Tryd.func39, Tryd.ntmps39
  go_wp2_with (go_at_call 43; ((with_reducible refine (HN.out _).mono ?_); rintro e w1 ⟨rfl, rfl⟩))
  exact ⟨rfl, rfl, two_bel _ _ _⟩
theorem must_tree_yes (a b c d : Int) (w : World) : Calls Tryd.prog 30 #[treeV a b c d, .int .i64 0] w fun e' w' => e' = .returned (treeV a b c d) ∧ Below w.heap.size w w' := by
  have HN := Lib.hid (fun X => done_yes X)
  unfold treeV
  go_enter Tryd.func30, Tryd.ntmps30
  go_wp2_with (go_at_call 43; ((with_reducible refine (HN.out _).mono ?_); rintro e w1 ⟨rfl, rfl⟩))
  exact bodyPost_ret (v := .agg #[.int .u32 a, .int .i64 b, .int .i64 c, .int .i64 d]) (by simp [results, Tryd.results30, go_sem]) rfl ⟨rfl, two_bel _ _ _⟩
theorem must_tree_no (k : Int) (hk : k ≠ 0) (a b c d : Int) (w : World) : Calls Tryd.prog 30 #[treeV a b c d, .int .i64 k] w fun e' w' => e' = .panicked [LV.wrg k] ∧ Below w.heap.size w w' := by
  have HN := Lib.hid (fun X => done_no k hk X)
  unfold treeV
  clear hk
  go_enter Tryd.func30, Tryd.ntmps30
  go_wp2_with (go_at_call 43; ((with_reducible refine (HN.out _).mono ?_); rintro e w1 ⟨rfl, rfl⟩))
  exact ⟨rfl, rfl, two_bel _ _ _⟩
end Go.Proofs.YtccnbepccajdoaaDoor.S13
