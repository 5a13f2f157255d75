/-
  The call of the statement Sha2Adds of layer 2.
-/
import Derived.Test.YtfgpahenacgmdaaDoorAwake2
import Derived.Test.YtfgpahenacgmdaaDoorEql
namespace Go.Proofs.YtfgpahenacgmdaaDoor.S2
set_option linter.unusedSimpArgs false
set_option linter.unusedVariables false
open Go.RowKit

theorem step_inj (s s' : St) (k w : UInt32) (h : s.step k w = s'.step k w) : s = s' := by
  obtain ⟨a, b, c, d, e, f, g, h0⟩ := s
  obtain ⟨a', b', c', d', e', f', g', h0'⟩ := s'
  simp only [St.step, St.mk.injEq] at h
  obtain ⟨h1, rfl, rfl, rfl, h5, rfl, rfl, rfl⟩ := h
  simp only [t2, ad] at h1
  have e1 := UInt32.add_left_inj _ |>.1 h1
  rw [e1] at h5
  simp only [ad] at h5
  have e2 := UInt32.add_left_inj _ |>.1 h5
  simp only [t1, ad] at e1
  have e3 := UInt32.add_left_inj _ |>.1 (UInt32.add_left_inj _ |>.1 (UInt32.add_left_inj _ |>.1 (UInt32.add_left_inj _ |>.1 e1)))
  rw [e2, e3]
theorem rnds_inj (ws : List UInt32) (s s' : St) (k : Nat) (h : rnds ws s k = rnds ws s' k) : s = s' := by
  induction k with
  | zero => exact h
  | succ k ih => exact ih (step_inj _ _ _ _ h)
theorem list_inj (s s' : St) (h : s.list = s'.list) : s = s' := by
  obtain ⟨a, b, c, d, e, f, g, h0⟩ := s
  obtain ⟨a', b', c', d', e', f', g', h0'⟩ := s'
  simpa [St.list] using h
theorem su_ad (a r : UInt32) : su (ad a r) a = r := by
  simp only [su, ad]
  rw [UInt32.add_comm]
  exact UInt32.add_sub_cancel _ _
theorem add_get (s r : St) (i : Nat) (h : i < 8) : su ((s.add r).list.getD i 0) (s.list.getD i 0) = r.list.getD i 0 := by
  match i, h with
  | 0, _ | 1, _ | 2, _ | 3, _ | 4, _ | 5, _ | 6, _ | 7, _ => exact su_ad _ _
def eqTo (ps qs : List UInt32) (k : Nat) : Bool := ps.take k == qs.take k
theorem eqTo_yes (ps qs : List UInt32) (k : Nat) (hp : k < ps.length) (hq : k < qs.length) (h : ps.getD k 0 = qs.getD k 0) : eqTo ps qs (k + 1) = eqTo ps qs k := by
  unfold eqTo
  rw [List.take_succ_eq_append_getElem hp, List.take_succ_eq_append_getElem hq]
  simp [List.getD, hp, hq] at h
  rw [h, Bool.eq_iff_iff]
  simp only [beq_iff_eq]
  exact ⟨fun e => (List.append_inj' e rfl).1, fun e => by rw [e]⟩
theorem eqTo_no (ps qs : List UInt32) (k : Nat) (hp : k < ps.length) (hq : k < qs.length) (h : ¬ ps.getD k 0 = qs.getD k 0) : eqTo ps qs (k + 1) = false := by
  unfold eqTo
  rw [List.take_succ_eq_append_getElem hp, List.take_succ_eq_append_getElem hq]
  simp [List.getD, hp, hq] at h
  simp only [beq_eq_false_iff_ne, ne_eq]
  intro e
  have := List.append_inj' e rfl
  exact h (by simpa using this.2)
theorem eqTo_all (ws : List UInt32) (a b : St) : eqTo (rnds ws a 64).list (rnds ws b 64).list 8 = decide (a = b) := by
  unfold eqTo
  rw [List.take_of_length_le (Nat.le_of_eq (list_length _)), List.take_of_length_le (Nat.le_of_eq (list_length _)), Bool.eq_iff_iff]
  simp only [beq_iff_eq, decide_eq_true_eq]
  exact ⟨fun h => rnds_inj ws a b 64 (list_inj _ _ h), fun h => by rw [h]⟩
theorem sA_get (s : St) (i : Nat) (h : i < 8) : (sA s)[i]? = some (.int .u32 ((s.list.getD i 0).toNat : Int)) := by
  rw [← sL_arr, sL_uv]
  exact uA_get _ _ (by rw [list_length]; exact h)
attribute [local go_sem] u32_sub
set_option maxHeartbeats 2000000 in
theorem sha2Adds_walk (w : World) (hk : GOk w) (a b : St) (xs : List UInt8) (hx : xs.length = 64) :
    Calls Tryd.prog 8 #[.agg (sA a), .agg (sA b), .agg (bv xs).toArray] w fun e w' => e = .returned (.bool true) ∧ Below w.heap.size w w' := by
  have HX := Lib.hid hx
  have HK := Lib.hid hk
  obtain ⟨cs, hcs⟩ : ∃ cs, cs = (bv xs).toArray := ⟨_, rfl⟩
  have hsz : cs.size = 64 := by rw [hcs]; simp [bv, hx]
  obtain ⟨p, hp⟩ : ∃ p, p = turn a xs := ⟨_, rfl⟩
  obtain ⟨q, hq⟩ : ∃ q, q = turn b xs := ⟨_, rfl⟩
  have HTa := Lib.hid (show ∀ W, KOk W → Calls Tryd.prog 13 #[.agg (sA a), .agg cs] W fun e w' => e = .returned (.agg (sA p)) ∧ Below W.heap.size W w' from fun W h => by rw [hp, hcs]; exact turn_any a xs W hx h)
  have HTb := Lib.hid (show ∀ W, KOk W → Calls Tryd.prog 13 #[.agg (sA b), .agg cs] W fun e w' => e = .returned (.agg (sA q)) ∧ Below W.heap.size W w' from fun W h => by rw [hq, hcs]; exact turn_any b xs W hx h)
  obtain ⟨D, hD⟩ : ∃ D, D = decide (a = b) := ⟨_, rfl⟩
  have heq : ∀ W, (binOp .eql 28 (.agg (sA a)) (.agg (sA b))).run Tryd.prog W = .ok (.bool D) W := fun W => by rw [hD, run_eql_state]
  have heg : ∀ W x y, (eqGuard .eql 28 x y (.agg (sA a)) (.agg (sA b))).run Tryd.prog W = .ok () W := fun W x y => run_eqGuard_agg W _ _ _ _ _ _ (by kernel_rfl)
  rw [← hcs]
  have HSZ := Lib.hid hsz
  have HP := Lib.hid hp
  have HQ := Lib.hid hq
  have HD := Lib.hid hD
  have HEQ := Lib.hid heq
  have HEG := Lib.hid heg
  clear hcs hsz hp hq hx hk hD heq heg
  have hB0 : Below w.heap.size w (((w.alloc (.cells (sA a) 28)).alloc (.cells (sA b) 28)).alloc (.cells cs 29)) := (((Below.refl _ _).alloc (Nat.le_refl _) _).alloc (by simp) _).alloc (by simp; omega) _
  have b0 : Bk (((w.alloc (.cells (sA a) 28)).alloc (.cells (sA b) 28)).alloc (.cells cs 29)) w.heap.size 28 (sA a) := ((Bk.newAt _ _ _ _ rfl).alloc _).alloc _
  have b1 : Bk (((w.alloc (.cells (sA a) 28)).alloc (.cells (sA b) 28)).alloc (.cells cs 29)) (w.heap.size + 1) 28 (sA b) := (Bk.newAt _ _ _ _ (by simp)).alloc _
  have b2 : Bk (((w.alloc (.cells (sA a) 28)).alloc (.cells (sA b) 28)).alloc (.cells cs 29)) (w.heap.size + 1 + 1) 29 cs := Bk.newAt _ _ _ _ (by simp)
  have B0 := Lib.hid b0
  have B1 := Lib.hid b1
  have B2 := Lib.hid b2
  have HB0 := Lib.hid hB0
  clear b0 b1 b2 hB0
  go_enter Tryd.func8, Tryd.ntmps8
  go_wp2_with (first
    | (go_at_call 9; ((with_reducible refine (awake_true _ (HK.out.below (Nat.le_refl _) HB0.out)).mono ?_); rintro e w1 ⟨rfl, hb1⟩; have C0 := Lib.hid (B0.out.below hb1 B0.out.lt); have C1 := Lib.hid (B1.out.below hb1 B1.out.lt); have C2 := Lib.hid (B2.out.below hb1 B2.out.lt); have HB1 := Lib.hid (HB0.out.trans (hb1.mono HB0.out.size)); clear hb1))
    | (refine wpList_load_row rfl 29 _ rfl (w.heap.size + 1 + 1) rfl 29 cs (0, 0) _ C2.out Tryd.underlying29 rfl (by rw [HSZ.out]; kernel_rfl) ?_)
    | (refine wpList_load_row rfl 28 (.tmp 3) rfl w.heap.size rfl 28 (sA a) (0, 0) _ C0.out Tryd.underlying28 rfl Tryd.info8 ?_)
    | (go_at_call 13; ((with_reducible refine (HTa.out _ (HK.out.below (Nat.le_refl _) HB1.out).k).mono ?_); rintro e w2 ⟨rfl, hb2⟩; have D0 := Lib.hid (C0.out.below hb2 C0.out.lt); have D1 := Lib.hid (C1.out.below hb2 C1.out.lt); have D2 := Lib.hid (C2.out.below hb2 C2.out.lt); have HB2 := Lib.hid (HB1.out.trans (hb2.mono HB1.out.size)); clear hb2))
    | (refine wpList_store_row rfl 28 (.tmp 7) _ rfl w2.heap.size (sA p) rfl rfl 28 _ (Bk.newAt _ _ _ _ rfl) Tryd.info8 rfl (sA_one _) ?_; rw [World.setRow_alloc_new]; have E0 := Lib.hid (D0.out.alloc (.cells (sA p) 28)); have E1 := Lib.hid (D1.out.alloc (.cells (sA p) 28)); have E2 := Lib.hid (D2.out.alloc (.cells (sA p) 28)); have E3 := Lib.hid (Bk.newAt w2 28 (sA p) _ rfl); have HB3 := Lib.hid (HB2.out.alloc HB2.out.size (.cells (sA p) 28)))
    | (refine wpList_load_row rfl 29 _ rfl (w.heap.size + 1 + 1) rfl 29 cs (0, 0) _ E2.out Tryd.underlying29 rfl (by rw [HSZ.out]; kernel_rfl) ?_)
    | (refine wpList_load_row rfl 28 (.tmp 4) rfl (w.heap.size + 1) rfl 28 (sA b) (0, 0) _ E1.out Tryd.underlying28 rfl Tryd.info8 ?_)
    | (go_at_call 13; ((with_reducible refine (HTb.out _ (HK.out.below (Nat.le_refl _) HB3.out).k).mono ?_); rintro e w3 ⟨rfl, hb3⟩; have F0 := Lib.hid (E0.out.below hb3 E0.out.lt); have F1 := Lib.hid (E1.out.below hb3 E1.out.lt); have F3 := Lib.hid (E3.out.below hb3 E3.out.lt); have HB4 := Lib.hid (HB3.out.trans (hb3.mono HB3.out.size)); clear hb3))
    | (refine wpList_store_row rfl 28 (.tmp 8) _ rfl w3.heap.size (sA q) rfl rfl 28 _ (Bk.newAt _ _ _ _ rfl) Tryd.info8 rfl (sA_one _) ?_; rw [World.setRow_alloc_new]))
  have g0 := F0.out.alloc (.cells (sA q) 28)
  have g1 := F1.out.alloc (.cells (sA q) 28)
  have g3 := F3.out.alloc (.cells (sA q) 28)
  have g4 := Bk.newAt w3 28 (sA q) _ rfl
  have hB := HB4.out.alloc HB4.out.size (.cells (sA q) 28)
  obtain ⟨w4, hw4⟩ : ∃ w4, w4 = w3.alloc (.cells (sA q) 28) := ⟨_, rfl⟩
  rw [← hw4] at g0 g1 g3 g4 hB
  rw [← hw4]
  clear hw4
  have G0 := Lib.hid g0
  have G1 := Lib.hid g1
  have G3 := Lib.hid g3
  have G4 := Lib.hid g4
  have HB := Lib.hid hB
  clear g0 g1 g3 g4 hB
  obtain ⟨B2', hB2'⟩ : ∃ B, B = w2.heap.size := ⟨_, rfl⟩
  obtain ⟨B3', hB3'⟩ : ∃ B, B = w3.heap.size := ⟨_, rfl⟩
  rw [← hB2'] at G3
  rw [← hB3'] at G4
  rw [← hB2', ← hB3']
  clear hB2' hB3'
  go_loopw [9, 10] (fun v i wr => ∃ k n : Nat, k ≤ 8 ∧ i = .int .i64 (k : Int) ∧ wr = w4.drewN n ∧ v = .bool (eqTo (rnds (wds xs) a 64).list (rnds (wds xs) b 64).list k)) (fun _ i _ => 8 - (intOf i).toNat)
  case atStart => exact ⟨0, 0, by omega, rfl, rfl, rfl⟩
  case round =>
    obtain ⟨k, n, hk8, rfl, rfl, rfl⟩ := hrel
    by_cases hlt : k < 8
    · have c0 := (G0.out.cell k).trans (sA_get a k hlt)
      have c1 := (G1.out.cell k).trans (sA_get b k hlt)
      have c3 := (G3.out.cell k).trans (sA_get p k hlt)
      have c4 := (G4.out.cell k).trans (sA_get q k hlt)
      obtain ⟨a0, ha0⟩ : ∃ v, v = a.list.getD k 0 := ⟨_, rfl⟩
      obtain ⟨b0, hb0⟩ : ∃ v, v = b.list.getD k 0 := ⟨_, rfl⟩
      obtain ⟨p0, hp0⟩ : ∃ v, v = p.list.getD k 0 := ⟨_, rfl⟩
      obtain ⟨q0, hq0⟩ : ∃ v, v = q.list.getD k 0 := ⟨_, rfl⟩
      rw [← ha0] at c0
      rw [← hb0] at c1
      rw [← hp0] at c3
      rw [← hq0] at c4
      have e1 : su p0 a0 = (rnds (wds xs) a 64).list.getD k 0 := by rw [hp0, ha0, HP.out]; exact add_get a _ k hlt
      have e2 : su q0 b0 = (rnds (wds xs) b 64).list.getD k 0 := by rw [hq0, hb0, HQ.out]; exact add_get b _ k hlt
      have i2 : (k : Int) < 8 := by omega
      by_cases he : su p0 a0 = su q0 b0
      · have HE := Lib.hid (eqTo_yes (rnds (wds xs) a 64).list (rnds (wds xs) b 64).list k (by rw [list_length]; exact hlt) (by rw [list_length]; exact hlt) (by rw [← e1, ← e2]; exact he))
        have ht : (((su p0 a0).toNat : Int) != ((su q0 b0).toNat : Int)) = false := by rw [he]; simp
        clear he e1 e2 ha0 hb0 hp0 hq0
        go_wp2
        go_quiet (fail)
        go_wp2
        go_roundw
        case rel => exact ⟨k + 1, _, by omega, by go_num, rfl, by rw [HE.out]⟩
        case measure => simp [intOf]; omega
      · have HE := Lib.hid (eqTo_no (rnds (wds xs) a 64).list (rnds (wds xs) b 64).list k (by rw [list_length]; exact hlt) (by rw [list_length]; exact hlt) (by rw [← e1, ← e2]; exact he))
        have ht : (((su p0 a0).toNat : Int) != ((su q0 b0).toNat : Int)) = true := by
          simp only [bne_iff_ne, ne_eq]
          intro h; exact he (UInt32.toNat_inj.1 (by omega))
        clear he e1 e2 ha0 hb0 hp0 hq0
        go_wp2
        go_quiet (fail)
        go_wp2
        go_roundw
        case rel => exact ⟨k + 1, _, by omega, by go_num, rfl, by rw [HE.out]⟩
        case measure => simp [intOf]; omega
    · obtain rfl : k = 8 := by omega
      have hall : eqTo (rnds (wds xs) a 64).list (rnds (wds xs) b 64).list 8 = D := by rw [eqTo_all, HD.out]
      rw [hall]
      have heq := HEQ.out
      have heg := HEG.out
      clear hall hlt
      have hBn := below_drewN HB.out n
      go_wp2_with (first
        | (refine wpList_load_row rfl 28 (.tmp 3) rfl w.heap.size rfl 28 (sA a) (0, 0) _ (G0.out.drewN n) Tryd.underlying28 rfl Tryd.info8 ?_)
        | (refine wpList_load_row rfl 28 (.tmp 4) rfl (w.heap.size + 1) rfl 28 (sA b) (0, 0) _ (G1.out.drewN n) Tryd.underlying28 rfl Tryd.info8 ?_))
      go_ret
      exact ⟨by simp, hBn⟩
theorem sha2Adds_frame (w : World) (hk : GOk w) (v0 : Value) (y0 : St) (o0 : v0 = .agg (sA y0)) (v1 : Value) (y1 : St) (o1 : v1 = .agg (sA y1)) (v2 : Value) (y2 : List UInt8) (o2 : v2 = .agg (bv y2).toArray ∧ y2.length = 64) :
    Calls Tryd.prog 8 #[v0, v1, v2] w fun e w' => e = .returned (.bool true) ∧ Below w.heap.size w w' := by
  obtain ⟨rfl, hx⟩ := o2
  subst o0 o1
  exact sha2Adds_walk w hk y0 y1 y2 hx
end Go.Proofs.YtfgpahenacgmdaaDoor.S2
