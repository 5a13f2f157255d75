/-
  Texts put together: Sk4. No statement is proved here.
-/
import Derived.Test.YtnoflgkjdibblaaDoorWa23

/-
  The landed slots: is an area a record? No statement is proved here.
-/
namespace Go.Proofs.YtnoflgkjdibblaaDoor.S20
set_option linter.unusedSimpArgs false
set_option linter.unusedVariables false
set_option maxRecDepth 8192
open Go.RowKit S19

theorem results_struct_tmp {P : Program} {fn : Func} {p q : Tmp} {ty : TypeId} (h : fn.results = #[.cell p ty, .tmp q]) (tmps : Array Value) (w : World) (g : Nat) (t : TypeId) (cs : Array Value) (fr : Nat × Nat) (d : TypeDesc)
    (hp : tmps.getD p undef = .pointer (some ⟨g, 0, none⟩)) (hg : w.heap[g]? = some (.cells cs t fr))
    (hu : P.underlying ty = some d) (hd : (match d with | .struct _ | .array _ _ => true | _ => false) = true) (hi : (P.info? ty).map (·.size) = some cs.size) :
    (results fn tmps).run P w = .ok (.tuple #[.agg cs, tmps.getD q undef]) w := by
  have hp' : tmps[p]?.getD undef = .pointer (some ⟨g, 0, none⟩) := by simpa using hp
  simp [results, h, hp', asAddr, run_loadVar_row w g t ty cs fr d hg hu hd hi]
theorem Tryd.infoRec : (Tryd.prog.info? 76).map (·.size) = some 2 := by kernel_rfl
theorem Tryd.infoKnown : (Tryd.prog.info? 78).map (·.size) = some 3 := by kernel_rfl
/-- What an area comes to. -/
def GivesT (xs : List UInt8) (n : Nat) (A : Option Addr) (w : World) (e : Ending) (w' : World) : Prop :=
  ∃ (num : Nat) (A' : Option Addr) (m c' : Nat), e = .returned (.tuple #[.agg #[.int .u64 (num : Int), .slice A' m c'], .bool (decide (wholeP xs n))]) ∧ Below w.heap.size w w' ∧
    (wholeP xs n → num = numOf xs ∧ Rd w' A' m c' (dataOf xs) ∧ ∀ a, A' = some a → ∃ a0, A = some a0 ∧ a.block = a0.block)
theorem rec_fin {w X : World} {xs : List UInt8} {n : Nat} {A : Option Addr} {num m c' : Nat} {A' : Option Addr} {r : Bool} (hb : Below w.heap.size w X) (hr : decide (wholeP xs n) = r) (h : wholeP xs n → num = numOf xs ∧ Rd X A' m c' (dataOf xs) ∧ ∀ a, A' = some a → ∃ a0, A = some a0 ∧ a.block = a0.block) :
    GivesT xs n A w (.returned (.tuple #[.agg #[.int .u64 (num : Int), .slice A' m c'], .bool r])) X := by
  subst hr
  exact ⟨num, A', m, c', rfl, hb, h⟩
theorem add_at (a : Addr) (k c : Nat) (A : Option Addr) (h : (if c = k then A else A.map (·.add k)) = some a) : ∃ a0, A = some a0 ∧ a.block = a0.block := by
  split at h
  · exact ⟨a, h, rfl⟩
  · cases A with
    | none => cases h
    | some a0 =>
      injection h with h
      exact ⟨a0, rfl, by rw [← h]; exact add_block a0 k⟩
theorem quo_of {k n : Nat} (h : k = 64 * n) : (k : Int).tdiv 64 = (n : Int) ∧ k / 64 = n ∧ (k : Int) / 64 = (n : Int) := by
  subst h
  refine ⟨?_, by omega, by omega⟩
  rw [Int.tdiv_eq_ediv_of_nonneg (by omega)]
  omega
set_option maxHeartbeats 4000000 in
theorem take_any (A : Option Addr) (k c : Nat) (xs : List UInt8) (n : Nat) (w : World) (hgk : S2.GOk w) (hr : Rd w A k c xs) (hk : k = 64 * n) (h1 : 1 ≤ n) (h8 : n ≤ 8) :
    Calls Tryd.prog 66 #[.slice A k c] w (GivesT xs n A w) := by
  have hrm := room_nat h1 h8
  obtain ⟨rm, hrm2⟩ : ∃ rm, rm = room n := ⟨_, rfl⟩
  have hcap := hr.cap
  have hl := hr.len
  obtain ⟨num, hnum⟩ : ∃ num, num = numOf xs := ⟨_, rfl⟩
  obtain ⟨cnt, hcnt⟩ : ∃ cnt, cnt = cntOf xs := ⟨_, rfl⟩
  have hnl := numOf_lt xs
  have hcl := cntOf_lt xs
  rw [← hnum] at hnl
  rw [← hcnt] at hcl
  obtain ⟨g, hg⟩ : ∃ g, w.heap.size = g := ⟨_, rfl⟩
  obtain ⟨w0, hw0⟩ : ∃ w0, w.alloc (.cells #[.int .u64 0, .slice none 0 0] 76) = w0 := ⟨_, rfl⟩
  have K0 := Lib.hid (show Bk w0 g 76 #[.int .u64 0, .slice none 0 0] by rw [← hw0]; exact Bk.newAt _ _ _ _ hg)
  have B0 := Lib.hid (show Below w.heap.size w w0 by rw [← hw0]; exact (Below.refl _ _).alloc (Nat.le_refl _) _)
  have P1 : ∀ W, (Instr.slice 25 (.slice A k c) none (some (.int .i64 8)) none).run Tryd.prog W = .ok (.slice A 8 c) W := fun W => run_cutSlH (m := 8) rfl (by omega) W
  have P2 : ∀ W, (Instr.sliceAt 25 (.slice A k c) none (some (.int .i64 8)) none).run Tryd.prog W = .ok (.slice A 8 c) W := fun W => run_cutSlHAt (m := 8) rfl (by omega) W
  obtain ⟨A8, hA8⟩ : ∃ A8, A8 = if c = 8 then A else A.map (·.add 8) := ⟨_, rfl⟩
  have P3 : ∀ W, (Instr.slice 25 (.slice A k c) (some (.int .i64 8)) (some (.int .i64 12)) none).run Tryd.prog W = .ok (.slice A8 4 (c - 8)) W := fun W => by rw [hA8]; exact run_cutSlLH (l' := 8) (m := 4) rfl rfl (by omega) W
  have P4 : ∀ W, (Instr.sliceAt 25 (.slice A k c) (some (.int .i64 8)) (some (.int .i64 12)) none).run Tryd.prog W = .ok (.slice A8 4 (c - 8)) W := fun W => by rw [hA8]; exact run_cutSlLHAt (l' := 8) (m := 4) rfl rfl (by omega) W
  have G1 := Lib.hid (show Calls Tryd.prog 61 #[.slice A 8 c] w0 fun e w' => e = .returned (.tuple #[.int .u64 (num : Int), .bool true]) ∧ w0 = w' by rw [hnum]; exact get_any A 8 c _ w0 (by omega) ((hr.below B0.out).take (by omega)))
  have G2 := Lib.hid (show Calls Tryd.prog 61 #[.slice A8 4 (c - 8)] w0 fun e w' => e = .returned (.tuple #[.int .u64 (cnt : Int), .bool true]) ∧ w0 = w' by
    rw [hcnt, hA8]
    exact get_any _ 4 (c - 8) _ w0 (by omega) (((hr.below B0.out).cut (k := 8) (by omega)).take (by omega)))
  have e28 : (k : Int) - 28 = (rm : Int) := by omega
  have brm : rm ≤ 1000000 := by omega
  have W28 := Lib.hid (show wrap64 ((k : Int) - 28) = (rm : Int) ∧ wrap64 (rm : Int) = (rm : Int) ∧ (k : Int) - 28 = (rm : Int) from ⟨by rw [e28]; exact (wrap_nat rm brm).1, (wrap_nat rm brm).1, e28⟩)
  clear e28
  have HG := Lib.hid hg
  have F0 := Lib.hid (show ¬ wholeP xs n → GivesT xs n A w (.returned (.tuple #[.agg #[.int .u64 ((0 : Nat) : Int), .slice none 0 0], .bool false])) ((w0.setCell ⟨g, 0, none⟩ (.int .u64 0)).setCell ⟨g, 1, none⟩ (.slice none 0 0)) from fun h => rec_fin ((B0.out.setCell (p := ⟨g, 0, none⟩) (by rw [HG.out]; exact Nat.le_refl _) _).setCell (p := ⟨g, 1, none⟩) (by rw [HG.out]; exact Nat.le_refl _) _) (decide_eq_false h) (fun h' => absurd h' h))
  have c0 : w0.cell? ⟨g, 0, none⟩ = some (.int .u64 0) := K0.out.cell 0
  have c1 : w0.cell? ⟨g, 1, none⟩ = some (.slice none 0 0) := K0.out.cell 1
  have f0 := K0.out.frozen 0
  have f1 := K0.out.frozen 1
  by_cases q1 : num = 0
  · have F := Lib.hid (F0.out fun h => h.1 (by rw [← hnum]; exact q1))
    have y1 : (num : Int) < 1 := by omega
    clear hk h1 h8 hnum hcnt hA8 hl hcap hrm2 hr hrm hcl hnl F0 brm
    obtain ⟨w28, w29, e28⟩ := W28.out
    go_enter Tryd.func66, Tryd.ntmps66
    go_wp2_with (first
      | (go_at_call 61; ((with_reducible refine G1.out.mono ?_); rintro e w1 ⟨rfl, rfl⟩))
      | (go_at_call 61; ((with_reducible refine G2.out.mono ?_); rintro e w2 ⟨rfl, rfl⟩)))
    refine bodyPost_ret (results_struct_tmp rfl _ _ g _ _ _ _ rfl ((K0.out.put 0 _).put 1 _) Tryd.underlying76 rfl Tryd.infoRec) rfl ?_
    exact F.out
  by_cases q2 : rm < cnt
  · have F := Lib.hid (F0.out fun h => by have := h.2.1; omega)
    have y1 : ¬ (num : Int) < 1 := by omega
    have y2 : (rm : Int) < (cnt : Int) := by omega
    have y3 : rm < 18446744073709551616 := by omega
    clear hk h1 h8 hnum hcnt hA8 hl hcap hrm2 hr hrm hcl hnl q1 q2 F0 brm
    obtain ⟨w28, w29, e28⟩ := W28.out
    go_enter Tryd.func66, Tryd.ntmps66
    go_wp2_with (first
      | (go_at_call 61; ((with_reducible refine G1.out.mono ?_); rintro e w1 ⟨rfl, rfl⟩))
      | (go_at_call 61; ((with_reducible refine G2.out.mono ?_); rintro e w2 ⟨rfl, rfl⟩)))
    refine bodyPost_ret (results_struct_tmp rfl _ _ g _ _ _ _ rfl ((K0.out.put 0 _).put 1 _) Tryd.underlying76 rfl Tryd.infoRec) rfl ?_
    exact F.out
  · obtain ⟨A12, hA12⟩ : ∃ A12, A12 = if c = 12 then A else A.map (·.add 12) := ⟨_, rfl⟩
    have P5 : ∀ W, (Instr.slice 25 (.slice A k c) (some (.int .i64 12)) (some (.int .u64 (12 + (cnt : Int)))) none).run Tryd.prog W = .ok (.slice A12 cnt (c - 12)) W := fun W => by rw [hA12]; exact run_cutLHu (l' := 12) (m := cnt) rfl (by omega) (by omega) W
    have P6 : ∀ W, (Instr.sliceAt 25 (.slice A k c) (some (.int .i64 12)) (some (.int .u64 (12 + (cnt : Int)))) none).run Tryd.prog W = .ok (.slice A12 cnt (c - 12)) W := fun W => by rw [hA12]; exact run_cutLHuAt (l' := 12) (m := cnt) rfl (by omega) (by omega) W
    obtain ⟨dt, hdt⟩ : ∃ dt, dt = dataOf xs := ⟨_, rfl⟩
    have RD := Lib.hid (show Rd w A12 cnt (c - 12) dt by rw [hdt, dataOf, ← hcnt, hA12]; exact (hr.cut (k := 12) (by omega)).take (by omega))
    obtain ⟨rec, hrec⟩ : ∃ rec, rec = recB num dt n := ⟨_, rfl⟩
    have RC := Lib.hid (show ∀ X, Below w.heap.size w X → Calls Tryd.prog 54 #[.agg #[.int .u64 (num : Int), .slice A12 cnt (c - 12)], .int .i64 (n : Int)] X (New X.heap.size X rec) from fun X hX => by rw [hrec]; exact lay_any num hnl A12 cnt (c - 12) dt n X (hgk.below (Nat.le_refl _) hX) (RD.out.below hX) (by omega) (by omega))
    have HR := Lib.hid hr
    have y1 : ¬ (num : Int) < 1 := by omega
    have y2 : ¬ (rm : Int) < (cnt : Int) := by omega
    have y3 : rm < 18446744073709551616 := by omega
    have F := Lib.hid (show ∀ X, Below w.heap.size w X → GivesT xs n A w (.returned (.tuple #[.agg #[.int .u64 (num : Int), .slice A12 cnt (c - 12)], .bool (sameB xs rec)])) X from fun X hX => by
      refine rec_fin hX ?_ fun hw => ⟨hnum, by rw [← hdt]; exact RD.out.below hX, fun a ha => by rw [hA12] at ha; exact add_at a 12 c A ha⟩
      have e : wholeP xs n ↔ xs = rec := ⟨fun h => by rw [hrec, hnum, hdt]; exact h.2.2.symm, fun h => ⟨by rw [← hnum]; exact q1, by rw [← hcnt]; omega, by rw [← hnum, ← hdt, ← hrec]; exact h.symm⟩⟩
      rw [decide_eq_decide.2 e, sameB]
      by_cases h : xs = rec
      · subst h
        simp
      · have h1 : (xs == rec) = false := by simpa using h
        rw [h1]
        exact decide_eq_false h)
    have HN := Lib.hid (show n ≤ 8 ∧ k ≤ 512 from ⟨h8, by omega⟩)
    have bn : n ≤ 1000000 := by omega
    have QN := Lib.hid (show ((k : Int).tdiv 64 = (n : Int) ∧ k / 64 = n ∧ (k : Int) / 64 = (n : Int)) ∧ wrap64 (n : Int) = (n : Int) ∧ IntKind.i64.wrap (n : Int) = (n : Int) from ⟨quo_of hk, wrap_nat n bn⟩)
    obtain ⟨h, hh⟩ : ∃ h, w0.heap.size = h := ⟨_, rfl⟩
    obtain ⟨w1, hw1⟩ : ∃ w1, w0.alloc (.cells #[.int .u64 (num : Int), .slice A12 cnt (c - 12)] 76) = w1 := ⟨_, rfl⟩
    have K1 := Lib.hid (show Bk w1 h 76 #[.int .u64 (num : Int), .slice A12 cnt (c - 12)] by rw [← hw1]; exact Bk.newAt _ _ _ _ hh)
    have B1 := Lib.hid (show Below w0.heap.size w0 w1 by rw [← hw1]; exact (Below.refl _ _).alloc (Nat.le_refl _) _)
    have B01 := Lib.hid (show Below w.heap.size w w1 from B0.out.trans (B1.out.mono B0.out.size))
    have K01 := Lib.hid (show Bk w1 g 76 #[.int .u64 0, .slice none 0 0] from K0.out.below B1.out K0.out.lt)
    clear hk h1 h8 hnum hcnt hA8 hl hcap hrm2 hr hrm q1 q2 hA12 hdt hrec F0 brm hgk bn
    obtain ⟨w28, w29, e28⟩ := W28.out
    have SAM := Lib.hid (fun A' n' c' ys X h' h'' => same_any A A' k c n' c' xs ys X h' h'')
    have GD := Lib.hid (Below.refl w1.heap.size w1).drew
    have KX := Lib.hid (show ∀ X : World, X.heap[h]? = w1.heap[h]? → X.cell? ⟨h, 0, none⟩ = some (.int .u64 (num : Int)) ∧ X.cell? ⟨h, 1, none⟩ = some (.slice A12 cnt (c - 12)) from fun X hX => by
      have hb : Bk X h 76 #[.int .u64 (num : Int), .slice A12 cnt (c - 12)] := hX.trans K1.out
      exact ⟨hb.cell 0, hb.cell 1⟩)
    have HNE := Lib.hid (show h ≠ g from fun e => by have := K0.out.lt; omega)
    go_enter Tryd.func66, Tryd.ntmps66
    go_upto_region 6 with (first
      | (go_at_call 61; ((with_reducible refine G1.out.mono ?_); rintro e w1 ⟨rfl, rfl⟩))
      | (go_at_call 61; ((with_reducible refine G2.out.mono ?_); rintro e w2 ⟨rfl, rfl⟩)))
    clear hw1 hw0 c0 c1 f0 f1 y1 y2 y3 w28 w29 e28 P1 P2 P3 P4 P5 P6 hg hh G1 G2
    obtain ⟨⟨hq, hd64, hd65⟩, wn, wn2⟩ := QN.out
    (go_region_held3 (fun X => X.cell? ⟨h, 0, none⟩ = some (.int .u64 (num : Int)) ∧ X.cell? ⟨h, 1, none⟩ = some (.slice A12 cnt (c - 12))) (first
      | exact KX.out _ ((Below.heap_setCell _ ⟨g, 1, none⟩ _ h HNE.out).trans ((Below.heap_setCell _ ⟨g, 0, none⟩ _ h HNE.out).trans (B4.out.block h K1.out.lt)))
      | exact KX.out _ (B4.out.block h K1.out.lt)
      | exact KX.out _ (GD.out.block h K1.out.lt)) (first
      | (go_at_call 54; ((with_reducible refine (RC.out _ (B01.out.trans (GD.out.mono B01.out.size))).mono ?_); rintro e w4 ⟨A4, n4, c4, rfl, o4, b4⟩; have R4 := Lib.hid (Rd.own o4); have B4 := Lib.hid (GD.out.trans (b4.mono GD.out.size)); have K4 := Lib.hid (K01.out.below B4.out K01.out.lt); have d0 : w4.cell? ⟨g, 0, none⟩ = some (.int .u64 0) := K4.out.cell 0; have d1 : w4.cell? ⟨g, 1, none⟩ = some (.slice none 0 0) := K4.out.cell 1; have e0 := K4.out.frozen 0; have e1 := K4.out.frozen 1; clear o4 b4))
      | (go_at_call 28; ((with_reducible refine (SAM.out A4 n4 c4 rec w4 (HR.out.below (B01.out.trans (B4.out.mono B01.out.size))) R4.out).mono ?_); rintro e w5 ⟨rfl, rfl⟩))
      | fail))
    go_wp2_with (fail)
    refine bodyPost_ret (results_struct_tmp rfl _ _ g _ _ _ _ rfl ((K4.out.put 0 _).put 1 _) Tryd.underlying76 rfl Tryd.infoRec) rfl ?_
    exact F.out _ (((B01.out.trans (B4.out.mono B01.out.size)).setCell (p := ⟨g, 0, none⟩) (by rw [HG.out]; exact Nat.le_refl _) _).setCell (p := ⟨g, 1, none⟩) (by rw [HG.out]; exact Nat.le_refl _) _)
end Go.Proofs.YtnoflgkjdibblaaDoor.S20
