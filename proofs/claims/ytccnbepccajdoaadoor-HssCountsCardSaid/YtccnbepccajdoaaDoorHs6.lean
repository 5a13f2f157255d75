/-
  What the landed hss.May and hss.Total do. No statement is proved here.
-/
import Derived.Test.YtccnbepccajdoaaDoorHs5
namespace Go.Proofs.YtccnbepccajdoaaDoor.S13
set_option linter.unusedSimpArgs false
set_option linter.unusedVariables false
open Go.RowKit S7 S8

theorem hmay1_idle (w : World) : CallsD Tryd.prog 23 #[] .returning w fun e u' w' => e = .returned (.tuple #[]) ∧ u' = .returning ∧ w = w' := by
  refine callsD_of_wpS Tryd.func23 rfl fun c₀ cs hu => ?_
  apply wpS_region
  simp [wpOpsS, go_sem, recoverD, hu, Tryd.ntmps23, Exit.thenS, Array.replicate, List.replicate]
  refine (LV.told_nil w).mono ?_
  rintro e w' ⟨rfl, rfl⟩
  simp [go_sem, Oper.upon, bodyPostS, results, Tryd.results23]
  cases c₀
  cases hu
  rfl
theorem hmay1_caught (k : Int) (older : List PanicEntry) (w : World) :
    CallsD Tryd.prog 23 #[] (.panicking (LV.wrg k :: older)) w fun e u' w' =>
      e = .returned (.tuple #[]) ∧ u' = .panicking ({ v := .iface 62 (.agg #[.int .i64 k]), recovered := true } :: older) ∧ Below w.heap.size w w' := by
  refine callsD_of_wpS Tryd.func23 rfl fun c₀ cs hu => ?_
  apply wpS_region
  simp [wpOpsS, go_sem, recoverD, hu, LV.wrg, Tryd.ntmps23, Exit.thenS, Array.replicate, List.replicate]
  refine (LV.told_wrong k w).mono ?_
  rintro e w' ⟨rfl, hb⟩
  simp [go_sem, Oper.upon, bodyPostS, results, Tryd.results23]
  exact hb
theorem htot1_idle (w : World) : CallsD Tryd.prog 12 #[] .returning w fun e u' w' => e = .returned (.tuple #[]) ∧ u' = .returning ∧ w = w' := by
  refine callsD_of_wpS Tryd.func12 rfl fun c₀ cs hu => ?_
  apply wpS_region
  simp [wpOpsS, go_sem, recoverD, hu, Tryd.ntmps12, Exit.thenS, Array.replicate, List.replicate]
  refine (LV.told_nil w).mono ?_
  rintro e w' ⟨rfl, rfl⟩
  simp [go_sem, Oper.upon, bodyPostS, results, Tryd.results12]
  cases c₀
  cases hu
  rfl
theorem htot1_caught (k : Int) (older : List PanicEntry) (w : World) :
    CallsD Tryd.prog 12 #[] (.panicking (LV.wrg k :: older)) w fun e u' w' =>
      e = .returned (.tuple #[]) ∧ u' = .panicking ({ v := .iface 62 (.agg #[.int .i64 k]), recovered := true } :: older) ∧ Below w.heap.size w w' := by
  refine callsD_of_wpS Tryd.func12 rfl fun c₀ cs hu => ?_
  apply wpS_region
  simp [wpOpsS, go_sem, recoverD, hu, LV.wrg, Tryd.ntmps12, Exit.thenS, Array.replicate, List.replicate]
  refine (LV.told_wrong k w).mono ?_
  rintro e w' ⟨rfl, hb⟩
  simp [go_sem, Oper.upon, bodyPostS, results, Tryd.results12]
  exact hb
theorem hmay_any (A : Option Addr) (n c : Nat) (L : List Pr) (w : World) (hk : S0.ok w) (h : Rp w A n c L) : Calls Tryd.prog 9 #[.slice A n c] w fun e w' => e = .returned (.bool (mayL L)) ∧ Below w.heap.size w w' := by
  have HH := Lib.hid (heights_any A n c L w hk h)
  cases hm : mayL L with
  | true =>
    have HT := Lib.hid (HH.out.mono fun e w' h => show (e = .returned (.int .i64 (sumH L : Int)) ∧ Below w.heap.size w w') from ⟨by have := h.1; rw [hm, if_pos rfl] at this; exact this, h.2⟩)
    clear hk h hm HH
    go_enter_defers Tryd.func9, Tryd.ntmps9
    go_wp2_with (go_at_call 14; ((with_reducible refine HT.out.mono ?_); rintro e w1 ⟨rfl, b1⟩))
    refine leaves_cons (f := 23) (args := #[]) (by simp) (by simp [go_sem]) ?_
    refine (hmay1_idle w1).mono ?_
    rintro e1 u' w'' ⟨rfl, rfl, rfl⟩
    simp [Leaves, settle, results, Tryd.results9, go_sem]
    exact b1
  | false =>
    have HT := Lib.hid (HH.out.mono fun e w' h => show (e = .panicked [LV.wrg 4] ∧ Below w.heap.size w w') from ⟨by have := h.1; rw [hm, if_neg (by simp)] at this; exact this, h.2⟩)
    clear hk h hm HH
    go_enter_defers Tryd.func9, Tryd.ntmps9
    go_wp2_with (go_at_call 14; ((with_reducible refine HT.out.mono ?_); rintro e w1 ⟨rfl, b1⟩))
    refine leaves_cons (f := 23) (args := #[]) (by simp) (by simp [go_sem]) ?_
    refine (hmay1_caught 4 [] w1).mono ?_
    rintro e1 u' w'' ⟨rfl, rfl, hb⟩
    simp [Leaves, settle, results, Tryd.results9, go_sem]
    exact b1.trans (hb.mono b1.size)
theorem total_any (A : Option Addr) (n c : Nat) (L : List Pr) (w : World) (hk : S0.ok w) (h : Rp w A n c L) : Calls Tryd.prog 6 #[.slice A n c] w fun e w' => e = .returned (.int .u64 (totL L : Int)) ∧ Below w.heap.size w w' := by
  have HH := Lib.hid (heights_any A n c L w hk h)
  cases hm : mayL L with
  | true =>
    have HT := Lib.hid (HH.out.mono fun e w' h => show (e = .returned (.int .i64 (sumH L : Int)) ∧ Below w.heap.size w w') from ⟨by have := h.1; rw [hm, if_pos rfl] at this; exact this, h.2⟩)
    have h60 := (mayL_of hm).2.2.2
    have e1 : totL L = 2 ^ sumH L := by rw [totL, if_pos hm]
    rw [e1]
    obtain ⟨s, hs⟩ : ∃ s, s = sumH L := ⟨_, rfl⟩
    rw [← hs] at HT h60 ⊢
    clear hk h hm HH e1 hs
    go_enter_defers Tryd.func6, Tryd.ntmps6
    go_wp2_with (go_at_call 14; ((with_reducible refine HT.out.mono ?_); rintro e w1 ⟨rfl, b1⟩))
    refine leaves_cons (f := 12) (args := #[]) (by simp) (by simp [go_sem]) ?_
    refine (htot1_idle w1).mono ?_
    rintro e1 u' w'' ⟨rfl, rfl, rfl⟩
    have hp := pow_60 h60
    have hw : IntKind.u64.wrap (2 ^ s) = 2 ^ s := by
      have e : ((2 : Int) ^ s) = ((2 ^ s : Nat) : Int) := by simp
      rw [e]
      generalize 2 ^ s = q at hp ⊢
      rw [IntKind.wrap_u64]
      omega
    simp [Leaves, settle, results, Tryd.results6, go_sem, hw]
    exact b1
  | false =>
    have HT := Lib.hid (HH.out.mono fun e w' h => show (e = .panicked [LV.wrg 4] ∧ Below w.heap.size w w') from ⟨by have := h.1; rw [hm, if_neg (by simp)] at this; exact this, h.2⟩)
    have e1 : totL L = 0 := by rw [totL, hm, if_neg (by simp)]
    rw [e1]
    clear hk h hm HH e1
    go_enter_defers Tryd.func6, Tryd.ntmps6
    go_wp2_with (go_at_call 14; ((with_reducible refine HT.out.mono ?_); rintro e w1 ⟨rfl, b1⟩))
    refine leaves_cons (f := 12) (args := #[]) (by simp) (by simp [go_sem]) ?_
    refine (htot1_caught 4 [] w1).mono ?_
    rintro e1 u' w'' ⟨rfl, rfl, hb⟩
    simp [Leaves, settle, results, Tryd.results6, go_sem]
    exact b1.trans (hb.mono b1.size)
end Go.Proofs.YtccnbepccajdoaaDoor.S13
