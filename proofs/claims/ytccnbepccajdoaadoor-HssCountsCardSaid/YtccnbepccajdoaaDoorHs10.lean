/-
  What the landed hss.Read does of a public key that is too short. No statement is proved here.
-/
import Derived.Test.YtccnbepccajdoaaDoorHs6
import Derived.Test.YtccnbepccajdoaaDoorDigC
namespace Go.Proofs.YtccnbepccajdoaaDoor.S13
set_option linter.unusedSimpArgs false
set_option linter.unusedVariables false
open Go.RowKit S7 S8

theorem take_short (A : Option Addr) (n c k : Nat) (h : n < k) (hk : k ≤ 1000) (w : World) : Calls Tryd.prog 32 #[.slice A n c, .int .i64 (k : Int)] w fun e w' => e = .panicked [LV.wrg 2] ∧ w = w' := by
  have HN := Lib.hid (fun X => LV.need_no 2 X)
  have q1 : decide (k ≤ n) = false := by simp; omega
  clear h
  go_enter Tryd.func32, Tryd.ntmps32
  go_wp2_with (go_at_call 16; ((with_reducible refine (HN.out _).mono ?_); rintro e w1 ⟨rfl, rfl⟩))
  exact ⟨rfl, rfl, rfl⟩
theorem read_short (A A' : Option Addr) (n c n' c' : Nat) (h : n < 4) (w : World) : Calls Tryd.prog 21 #[.slice A n c, .slice A' n' c'] w fun e w' => e = .panicked [LV.wrg 2] ∧ w = w' := by
  have HT := Lib.hid (show ∀ X, Calls Tryd.prog 32 #[.slice A n c, .int .i64 4] X fun e w' => e = .panicked [LV.wrg 2] ∧ X = w' from fun X => take_short A n c 4 h (by omega) X)
  clear h
  go_enter Tryd.func21, Tryd.ntmps21
  go_wp2_with (go_at_call 32; ((with_reducible refine (HT.out _).mono ?_); rintro e w1 ⟨rfl, rfl⟩))
  exact ⟨rfl, rfl, rfl⟩
theorem read1_caught (q : Nat) (y k : Int) (older : List PanicEntry) (w : World) (hq : Bk w q 28 #[.int .i64 y]) :
    CallsD Tryd.prog 20 #[.pointer (some ⟨q, 0, none⟩)] (.panicking (LV.wrg k :: older)) w fun e u' w' =>
      e = .returned (.tuple #[]) ∧ u' = .panicking ({ v := .iface 62 (.agg #[.int .i64 k]), recovered := true } :: older) ∧ ∃ w1, Below w.heap.size w w1 ∧ w' = w1.setCell ⟨q, 0, none⟩ (.int .i64 k) := by
  have c1 := cell_of_one hq
  have f1 := free_of_one hq
  refine callsD_of_wpS Tryd.func20 rfl fun c₀ cs hu => ?_
  apply wpS_region
  simp [wpOpsS, go_sem, recoverD, hu, LV.wrg, Tryd.ntmps20, Exit.thenS, Array.replicate, List.replicate]
  refine (LV.told_wrong k w).mono ?_
  rintro e w' ⟨rfl, hb⟩
  have c2 := cell_of_one (hq.below hb hq.lt)
  have f2 := free_of_one (hq.below hb hq.lt)
  simp [go_sem, c2, f2, Oper.upon, bodyPostS, results, Tryd.results20]
  exact ⟨w', hb, rfl⟩
theorem hread_short (A A' : Option Addr) (n c n' c' : Nat) (h : n < 4) (w : World) : Calls Tryd.prog 8 #[.slice A n c, .slice A' n' c'] w fun e w' => e = .returned (.tuple #[.slice none 0 0, .int .i64 2]) ∧ Below w.heap.size w w' := by
  have hmf : ∀ (fn : Fn) (first cap : Array Value) (w : World), (Instr.makeFunc fn first cap).run Tryd.prog w = .ok (.func fn first cap) w := fun _ _ _ _ => rfl
  have HR := Lib.hid (fun X => read_short A A' n c n' c' h X)
  have H5 := Lib.hid (Bk.new w 28 #[.int .i64 0])
  clear h
  go_enter_defers Tryd.func8, Tryd.ntmps8
  go_wp2_with (go_at_call 21; ((with_reducible refine (HR.out _).mono ?_); rintro e w1 ⟨rfl, rfl⟩))
  refine leaves_cons (f := 20) (args := #[.pointer (some ⟨w.heap.size, 0, none⟩)]) (by simp) (by simp [go_sem]) ?_
  refine (read1_caught w.heap.size 0 2 [] _ H5.out).mono ?_
  rintro e u' w'' ⟨rfl, rfl, w1, hb1, rfl⟩
  have c1 := cell_of_one ((H5.out.below hb1 H5.out.lt).put 0 (.int .i64 2))
  simp [Leaves, settle, results, Tryd.results8, go_sem, c1]
  exact (((Below.refl _ w).alloc (Nat.le_refl _) _).trans (hb1.mono (by simp))).setCell (Nat.le_refl _) _
end Go.Proofs.YtccnbepccajdoaaDoor.S13
