/-
  Texts put together: Sl7. No statement is proved here.
-/
import Derived.Test.YtnoflgkjdibblaaGreatDoorWa24
import Derived.Deep.CutRange
import Derived.Deep.LoopGhost

/-
  The document's own slots: a record is saved. No statement is proved here. (Written by gensl7.py.)
-/
namespace Go.Proofs.YtnoflgkjdibblaaGreatDoor.S20
set_option linter.unusedSimpArgs false
set_option linter.unusedVariables false
set_option maxRecDepth 4096
open Go.RowKit S19

/-- Each of the three has grown by what is new at most. -/
def Sub3 (G S T G' S' T' : Nat → Prop) (n : Nat) : Prop := (∀ b, G' b → G b ∨ n ≤ b) ∧ (∀ b, S' b → S b ∨ n ≤ b) ∧ (∀ b, T' b → T b ∨ n ≤ b)
theorem Sub3.or {G S T G' S' T' : Nat → Prop} {n : Nat} (h : Sub3 G S T G' S' T' n) : ∀ b, Or3 G' S' T' b → Or3 G S T b ∨ n ≤ b := by
  rintro b (e | e | e)
  · exact (h.1 b e).imp .inl id
  · exact (h.2.1 b e).imp (fun e => .inr (.inl e)) id
  · exact (h.2.2 b e).imp (fun e => .inr (.inr e)) id
/-- What a call on the document's own slots comes to. -/
def PostS (N : Nat) (h q : Nat) (k : Nat) (G S T : Nat → Prop) (w : World) (D' : Dk) (Z' : Sl) (v : Value) (e : Ending) (w' : World) : Prop :=
  e = .returned v ∧ ∃ L' k' G' S' T', k' ≤ k + 1 ∧ Qs N w' h q L' k' D' Z' G' S' T' ∧ Sub3 G S T G' S' T' w.heap.size ∧ Mv N (Or3 G (fun x => x = q) T) w w'
theorem write_sure (D : Dk) (i : Int) (b : List UInt8) : (D.write i b).sure = D.sure := by
  unfold Dk.write
  split
  · rfl
  · split
    · split
      · exact Dk.step_sure D
      · exact Dk.step_sure D
    · rfl
theorem flush_len (D : Dk) : D.flush.sure.length = D.sure.length := by
  unfold Dk.flush
  split
  · rfl
  · split
    · exact Dk.laid_len _ _
    · rw [Dk.step_sure]
theorem out_q {G S T : Nat → Prop} {q b : Nat} (hq : S q) (h : Or3 G (fun x => x = q) T b) : Or3 G S T b := by
  rcases h with e | e | e
  · exact .inl e
  · exact .inr (.inl (e ▸ hq))
  · exact .inr (.inr e)
theorem Mv.into {N : Nat} {F F' : Nat → Prop} {w w' : World} (h : Mv N F w w') (hF : ∀ b, F b → F' b) : Mv N F' w w' := h.mono hF
set_option maxHeartbeats 16000000 in
theorem rsave20_any (N : Nat) (w : World) (h q : Nat) (L : Value) (k : Nat) (D : Dk) (Z : Sl) (G S T : Nat → Prop) (t : Qs N w h q L k D Z G S T) (A : Option Addr) (nb c : Nat) (b : List UInt8) (hr : Rd w A nb c b) (hA : ∀ a, 0 < nb → A = some a → ¬ Or3 G (fun x => x = q) T a.block) (hc : D.cnt < 1099511627000) (hk : k < 1000000) :
    Calls Tryz.prog 40 #[.pointer (some ⟨q, 0, none⟩), .slice A nb c] w (PostS N h q k G S T w (Z.saveD D b) (Z.save D b) (.int .i64 (Z.saveC D b : Int))) := by
  obtain ⟨A5, c5, hb5, hr5, hi5⟩ := t.rz.ex
  have TQ := Lib.hid hb5
  have KQ := Lib.hid (show ∀ X : World, X.heap[q]? = w.heap[q]? → X.cell? ⟨q, 0, none⟩ = some (.pointer (some ⟨h, 0, none⟩)) ∧ X.cell? ⟨q, 1, none⟩ = some (.int .i64 (Z.first : Int)) ∧ X.cell? ⟨q, 2, none⟩ = some (.int .i64 (Z.n : Int)) ∧ X.cell? ⟨q, 3, none⟩ = some (.int .i64 Z.at_) ∧ X.cell? ⟨q, 4, none⟩ = some (.int .u64 (Z.num : Int)) ∧ X.cell? ⟨q, 5, none⟩ = some (.slice A5 Z.b.length c5) from fun X hX => by
    have hq : Bk X q 87 (slA h Z A5 c5) := hX.trans hb5
    exact ⟨hq.cell 0, hq.cell 1, hq.cell 2, hq.cell 3, hq.cell 4, hq.cell 5⟩)
  have hrm := room_nat t.zo.one t.zo.most
  obtain ⟨rm, hrm2⟩ : ∃ rm, rm = room Z.n := ⟨_, rfl⟩
  have h8 := t.zo.most
  have HRM := Lib.hid (show ∀ X, Calls Tryz.prog 69 #[.int .i64 (Z.n : Int)] X fun e w' => e = .returned (.int .i64 (rm : Int)) ∧ X = w' from fun X => by rw [hrm2]; exact rroom_any Z.n (by omega) (by omega) X)
  have hbl := hr.len
  have QT := Lib.hid t
  obtain ⟨c0, c1, c2, c3, c4, c5'⟩ := KQ.out w rfl
  by_cases q1 : rm < nb
  · have e1 : Z.saveC D b = 1 := by rw [Sl.saveC, if_pos (by omega)]
    have e2 : Z.saveD D b = D := by rw [Sl.saveD, if_pos (by omega)]
    have e3 : Z.save D b = Z := by rw [Sl.save, e1, if_neg (by omega)]
    rw [e1, e2, e3]
    have y1 : (rm : Int) < (nb : Int) := by omega
    clear t hrm hrm2 h8 hbl e1 e2 e3 q1 hr5 hi5 hb5 hr hA hc hk
    go_enter Tryz.func40, Tryz.ntmps40
    go_wp2_with (go_at_call 69; ((with_reducible refine (HRM.out _).mono ?_); rintro e w1 ⟨rfl, rfl⟩))
    go_ret
    exact ⟨rfl, L, k, G, S, T, by omega, QT.out, ⟨fun b hb => .inl hb, fun b hb => .inl hb, fun b hb => .inl hb⟩, Mv.refl _ _ _⟩
  · obtain ⟨sn, hsn⟩ : ∃ sn, sn = Z.n := ⟨_, rfl⟩
    obtain ⟨nx, hnx⟩ : ∃ nx, nx = Z.next := ⟨_, rfl⟩
    obtain ⟨tt, hto⟩ : ∃ tt, tt = Z.goes := ⟨_, rfl⟩
    obtain ⟨xs, hxs⟩ : ∃ xs, xs = recB nx b Z.n := ⟨_, rfl⟩
    have hn1 := t.zo.one
    have hfit := t.zo.fits
    have hm256 := t.rk.ok.most
    have hlx : xs.length = 64 * Z.n := by rw [hxs]; exact recB_len _ _ _ (by omega)
    have hnx2 : nx < 18446744073709551616 := by rw [hnx]; exact Nat.mod_lt _ (by omega)
    have hto2 : tt ≤ 1 := by rw [hto, Sl.goes]; split <;> omega
    have w1 : IntKind.u64.wrap ((Z.num : Int) + 1) = (nx : Int) := by rw [IntKind.wrap_u64, hnx, Sl.next]; omega
    have w2 : ((Z.num : Int) + 1) % 18446744073709551616 = (nx : Int) := by rw [hnx, Sl.next]; omega
    have RECC := Lib.hid (show ∀ X, Below w.heap.size w X → Calls Tryz.prog 70 #[.int .u64 (nx : Int), .slice A nb c, .int .i64 (Z.n : Int)] X (New X.heap.size X xs) from fun X hX => by rw [hxs]; exact rrec_any nx hnx2 A nb c b Z.n X (hr.below hX) (by omega) (by omega))
    have HTO := Lib.hid (show (Z.at_ = 0 → tt = 1) ∧ (¬ Z.at_ = 0 → tt = 0) from ⟨fun e => by rw [hto, Sl.goes, if_pos e], fun e => by rw [hto, Sl.goes, if_neg e]⟩)
    have HR := Lib.hid hr
    have HAN := Lib.hid hA
    have HSC := Lib.hid (show Z.saveC D b = (if (Sl.writes (Z.first + tt * Z.n) xs Z.n 0 D).1 = 0 then (Sl.writes (Z.first + tt * Z.n) xs Z.n 0 D).2.stepC else (Sl.writes (Z.first + tt * Z.n) xs Z.n 0 D).1) by rw [Sl.saveC, if_neg (by omega), Sl.written, ← hto, ← hnx, ← hxs])
    have HSD := Lib.hid (show Z.saveD D b = (if (Sl.writes (Z.first + tt * Z.n) xs Z.n 0 D).1 = 0 then (Sl.writes (Z.first + tt * Z.n) xs Z.n 0 D).2.flush else (Sl.writes (Z.first + tt * Z.n) xs Z.n 0 D).2) by rw [Sl.saveD, if_neg (by omega), Sl.written, ← hto, ← hnx, ← hxs])
    have HSV := Lib.hid (show ∀ x, Z.saveC D b = x → Z.save D b = (if x = 0 then { Z with at_ := (tt : Int), num := nx, b := b } else Z) from fun x hx => by rw [Sl.save, hx, hto, hnx])
    have HNM := Lib.hid (show Z.n ≤ 8 ∧ 1 ≤ Z.n ∧ Z.first + 2 * Z.n ≤ 256 ∧ tt ≤ 1 ∧ xs.length = 64 * Z.n ∧ nx < 18446744073709551616 ∧ D.cnt < 1099511627000 ∧ k < 1000000 from ⟨h8, hn1, by omega, hto2, hlx, hnx2, hc, hk⟩)
    have y1 : ¬ (rm : Int) < (nb : Int) := by omega
    have HNB := Lib.hid (show nb ≤ 1000000 by omega)
    clear t hrm hrm2 hbl q1 hr5 hi5 hb5 hr hA hc hk hnx hto hxs hn1 hfit hm256 hlx hnx2 hto2 h8 hsn
    go_enter Tryz.func40, Tryz.ntmps40
    go_upto_if 22 with (go_at_call 69; ((with_reducible refine (HRM.out _).mono ?_); rintro e w9 ⟨rfl, rfl⟩))
    go_cut [5] from 6 (fun s5 wx => s5 = .int .i64 (tt : Int) ∧ wx = w)
    case first =>
      by_cases qz : Z.at_ = 0
      · go_wp2_with (fail)
        go_meet
        exact ⟨by rw [HTO.out.1 qz]; rfl, rfl⟩
      · have qb : (Z.at_ == 0) = false := by simpa using qz
        go_wp2_with (fail)
        go_meet
        exact ⟨by rw [HTO.out.2 qz]; rfl, rfl⟩
    case rest =>
      obtain ⟨rfl, hwc⟩ := hcut
      replace hwc := hwc.symm
      subst hwc
      go_upto_region 6 with (fail)
      have GD := Lib.hid (Below.refl w.heap.size w).drew
      clear c0 c1 c2 c3 c4 c5'
      (go_region_held3 (fun X => X.cell? ⟨q, 0, none⟩ = some (.pointer (some ⟨h, 0, none⟩)) ∧ X.cell? ⟨q, 1, none⟩ = some (.int .i64 (Z.first : Int)) ∧ X.cell? ⟨q, 2, none⟩ = some (.int .i64 (Z.n : Int)) ∧ X.cell? ⟨q, 3, none⟩ = some (.int .i64 Z.at_) ∧ X.cell? ⟨q, 4, none⟩ = some (.int .u64 (Z.num : Int)) ∧ X.cell? ⟨q, 5, none⟩ = some (.slice A5 Z.b.length c5)) (first
        | exact KQ.out _ (R6.out.1.block q QT.out.rz.lt2)
        | exact KQ.out _ (GD.out.block q QT.out.rz.lt2)) (first
        | (go_at_call 70; ((with_reducible refine (RECC.out _ GD.out).mono ?_); rintro e w6 ⟨A6, n6, c6, rfl, o6, b6⟩; have O6 := Lib.hid o6; have R6 := Lib.hid (show Below w.heap.size w w6 ∧ Rd w6 A6 n6 c6 xs from ⟨GD.out.trans b6, Rd.own o6⟩); clear o6 b6))
        | fail))
      have hn6 : xs.length = n6 := own_len O6.out
      obtain ⟨m6, hm6⟩ : ∃ m6, m6 = n6 := ⟨_, rfl⟩
      rw [← hm6] at hn6 R6 O6 ⊢
      have HM6 := Lib.hid hn6
      clear hm6 hn6
      go_upto_region 7 with (fail)
      have Q6 := Lib.hid (QT.out.grow R6.out.1)
      obtain ⟨at0, hat⟩ : ∃ at0, at0 = Z.first + tt * Z.n := ⟨_, rfl⟩
      have HAT := Lib.hid (pn_of (show tt = 0 ∨ tt = 1 by have := HNM.out.2.2.2.1; omega) HNM.out.1 HNM.out.2.2.1 hat)
      obtain ⟨pn, hpn⟩ : ∃ pn, pn = tt * Z.n := ⟨_, rfl⟩
      rw [← hpn] at HAT hat
      have z1 : (tt : Int) * (Z.n : Int) = (pn : Int) := by rw [hpn]; simp
      have HPN := Lib.hid (show pn ≤ 8 ∧ at0 = Z.first + pn ∧ at0 + Z.n ≤ 256 from ⟨HAT.out.1, hat, HAT.out.2⟩)
      have HA0 := Lib.hid (show at0 ≤ 1000000 from Nat.le_trans (Nat.le_trans (Nat.le_add_right _ _) HPN.out.2.2) (by decide))
      have z2 : wrap64 ((tt : Int) * (Z.n : Int)) = (pn : Int) := by rw [z1]; exact (wrap_nat pn (Nat.le_trans HPN.out.1 (by decide))).1
      have z3 : (Z.first : Int) + (pn : Int) = (at0 : Int) := by rw [hat]; rfl
      have z4 : wrap64 ((Z.first : Int) + (pn : Int)) = (at0 : Int) := by rw [z3]; exact (wrap_nat at0 HA0.out).1
      have z5 : wrap64 (pn : Int) = (pn : Int) := (wrap_nat pn (Nat.le_trans HPN.out.1 (by decide))).1
      have z6 : wrap64 (at0 : Int) = (at0 : Int) := (wrap_nat at0 HA0.out).1
      have z7 : IntKind.i64.wrap (pn : Int) = (pn : Int) := (wrap_nat pn (Nat.le_trans HPN.out.1 (by decide))).2
      have z8 : IntKind.i64.wrap (at0 : Int) = (at0 : Int) := (wrap_nat at0 HA0.out).2
      have HZ9 := Lib.hid hpn
      clear hpn
      clear hat
      have KD := Lib.hid (show ∀ X : World, X.heap[q]? = w6.heap[q]? → X.cell? ⟨q, 0, none⟩ = some (.pointer (some ⟨h, 0, none⟩)) ∧ X.cell? ⟨q, 1, none⟩ = some (.int .i64 (Z.first : Int)) ∧ X.cell? ⟨q, 2, none⟩ = some (.int .i64 (Z.n : Int)) ∧ X.cell? ⟨q, 3, none⟩ = some (.int .i64 Z.at_) ∧ X.cell? ⟨q, 4, none⟩ = some (.int .u64 (Z.num : Int)) ∧ X.cell? ⟨q, 5, none⟩ = some (.slice A5 Z.b.length c5) from fun X hX => KQ.out X (hX.trans (R6.out.1.block q QT.out.rz.lt2)))
      have GD6 := Lib.hid (Below.refl w6.heap.size w6).drew
      obtain ⟨V, hb6, hr6⟩ := Q6.out.rk.ex
      have HB6 := Lib.hid hb6
      obtain ⟨vs, OL⟩ := Q6.out.ld.own
      have OL6 := Lib.hid OL
      have hqh : q ≠ h := fun e => Q6.out.gs h Q6.out.rk.lo.2 (e ▸ Q6.out.rz.at_)
      have HQH := Lib.hid hqh
      clear hb6 hr6 OL hqh
      go_cut [6] from 34 (fun s6 wx => s6 = .slice A6 m6 c6 ∧ ∃ L' T', Qs N wx h q L' (k + 1) D Z G S T' ∧ (∀ b, T' b → T b ∨ w6.heap.size ≤ b) ∧ Mv N (Or3 G (fun x => x = q) T) w6 wx)
      case first =>
        refine SG.wp_region_ghost (γ := Gh) (fun g => [.pointer (some ⟨q, 0, none⟩), .pointer (some ⟨q, 0, none⟩), .pointer (some ⟨q, 0, none⟩), .pointer (some ⟨h, 0, none⟩), .pointer (some ⟨q, 0, none⟩), .pointer (some ⟨q, 0, none⟩), .pointer (some ⟨q, 0, none⟩), .pointer (some ⟨h, 0, none⟩), .pointer (some ⟨h, 0, none⟩), .pointer (some ⟨h, 0, none⟩), L, .pointer (some ⟨q, 0, none⟩), .pointer (some ⟨q, 0, none⟩), .pointer (some ⟨q, 1, none⟩), .int .i64 (Z.first : Int), .int .i64 (tt : Int), .pointer (some ⟨q, 0, none⟩), .pointer (some ⟨q, 0, none⟩), .pointer (some ⟨q, 2, none⟩), .int .i64 (Z.n : Int), .int .i64 (pn : Int), .int .i64 (at0 : Int), .slice A6 m6 c6, .agg #[.int .i64 (at0 : Int), .slice A6 m6 c6]] ++ (.slice (some ⟨g.1, 0, none⟩) 1 1 :: v8of k g :: [.pointer (some ⟨h, 0, none⟩), .pointer (some ⟨h, 0, none⟩), undef])) (fun g B X => ILay N w6 h L k #[.int .i64 (at0 : Int), .slice A6 m6 c6] g B X) 29 (by kernel_rfl) (by kernel_rfl) rfl (0, none, 0) (ILay.start GD6.out 29) ?_
        refine SG.seq_pure (fun g => .pointer (some ⟨q, 0, none⟩)) (fun _ => rfl) (fun _ => by rfl) (fun g B X hL h => h.pure 0 (by decide) (by decide) (by decide) (by decide)) ?_ ?_
        · intro g B X hS
          go_simp
        simp only [Act.put, List.setIfInBounds_toArray, List.set_cons_zero, List.set_cons_succ]
        refine SG.seq_pure (fun g => .pointer (some ⟨q, 0, none⟩)) (fun _ => rfl) (fun _ => by rfl) (fun g B X hL h => h.pure 1 (by decide) (by decide) (by decide) (by decide)) ?_ ?_
        · intro g B X hS
          go_simp
        simp only [Act.put, List.setIfInBounds_toArray, List.set_cons_zero, List.set_cons_succ]
        refine SG.seq_pure (fun g => .pointer (some ⟨q, 0, none⟩)) (fun _ => rfl) (fun _ => by rfl) (fun g B X hL h => h.pure 2 (by decide) (by decide) (by decide) (by decide)) ?_ ?_
        · intro g B X hS
          go_simp
        simp only [Act.put, List.setIfInBounds_toArray, List.set_cons_zero, List.set_cons_succ]
        refine SG.seq_pure (fun g => .pointer (some ⟨h, 0, none⟩)) (fun _ => rfl) (fun _ => by rfl) (fun g B X hL h => h.pure 3 (by decide) (by decide) (by decide) (by decide)) ?_ ?_
        · intro g B X hS
          obtain ⟨x0, x1, x2, x3, x4, x5⟩ := KD.out X (hS.block Q6.out Q6.out.rz.lt2 HQH.out)
          go_simp
        simp only [Act.put, List.setIfInBounds_toArray, List.set_cons_zero, List.set_cons_succ]
        refine SG.seq_pure (fun g => .pointer (some ⟨q, 0, none⟩)) (fun _ => rfl) (fun _ => by rfl) (fun g B X hL h => h.pure 4 (by decide) (by decide) (by decide) (by decide)) ?_ ?_
        · intro g B X hS
          go_simp
        simp only [Act.put, List.setIfInBounds_toArray, List.set_cons_zero, List.set_cons_succ]
        refine SG.seq_pure (fun g => .pointer (some ⟨q, 0, none⟩)) (fun _ => rfl) (fun _ => by rfl) (fun g B X hL h => h.pure 5 (by decide) (by decide) (by decide) (by decide)) ?_ ?_
        · intro g B X hS
          go_simp
        simp only [Act.put, List.setIfInBounds_toArray, List.set_cons_zero, List.set_cons_succ]
        refine SG.seq_pure (fun g => .pointer (some ⟨q, 0, none⟩)) (fun _ => rfl) (fun _ => by rfl) (fun g B X hL h => h.pure 6 (by decide) (by decide) (by decide) (by decide)) ?_ ?_
        · intro g B X hS
          go_simp
        simp only [Act.put, List.setIfInBounds_toArray, List.set_cons_zero, List.set_cons_succ]
        refine SG.seq_pure (fun g => .pointer (some ⟨h, 0, none⟩)) (fun _ => rfl) (fun _ => by rfl) (fun g B X hL h => h.pure 7 (by decide) (by decide) (by decide) (by decide)) ?_ ?_
        · intro g B X hS
          obtain ⟨x0, x1, x2, x3, x4, x5⟩ := KD.out X (hS.block Q6.out Q6.out.rz.lt2 HQH.out)
          go_simp
        simp only [Act.put, List.setIfInBounds_toArray, List.set_cons_zero, List.set_cons_succ]
        refine SG.seq_pure (fun g => .pointer (some ⟨h, 0, none⟩)) (fun _ => rfl) (fun _ => by rfl) (fun g B X hL h => h.pure 8 (by decide) (by decide) (by decide) (by decide)) ?_ ?_
        · intro g B X hS
          go_simp
        simp only [Act.put, List.setIfInBounds_toArray, List.set_cons_zero, List.set_cons_succ]
        refine SG.seq_pure (fun g => .pointer (some ⟨h, 0, none⟩)) (fun _ => rfl) (fun _ => by rfl) (fun g B X hL h => h.pure 9 (by decide) (by decide) (by decide) (by decide)) ?_ ?_
        · intro g B X hS
          go_simp
        simp only [Act.put, List.setIfInBounds_toArray, List.set_cons_zero, List.set_cons_succ]
        refine SG.seq_load (fun g => L) (fun _ => rfl) (fun _ => by rfl) (fun g B X hL h => h.load) ?_ ?_
        · intro g B X h0 hd hS
          have c9 : X.cell? ⟨h, 0, none⟩ = some L := (HB6.out.below (hS.early h0) HB6.out.lt).cell 0
          go_simp
        simp only [Act.put, List.setIfInBounds_toArray, List.set_cons_zero, List.set_cons_succ]
        refine SG.seq_pure (fun g => .pointer (some ⟨q, 0, none⟩)) (fun _ => rfl) (fun _ => by rfl) (fun g B X hL h => h.pure 11 (by decide) (by decide) (by decide) (by decide)) ?_ ?_
        · intro g B X hS
          go_simp
        simp only [Act.put, List.setIfInBounds_toArray, List.set_cons_zero, List.set_cons_succ]
        refine SG.seq_pure (fun g => .pointer (some ⟨q, 0, none⟩)) (fun _ => rfl) (fun _ => by rfl) (fun g B X hL h => h.pure 12 (by decide) (by decide) (by decide) (by decide)) ?_ ?_
        · intro g B X hS
          go_simp
        simp only [Act.put, List.setIfInBounds_toArray, List.set_cons_zero, List.set_cons_succ]
        refine SG.seq_pure (fun g => .pointer (some ⟨q, 1, none⟩)) (fun _ => rfl) (fun _ => by rfl) (fun g B X hL h => h.pure 13 (by decide) (by decide) (by decide) (by decide)) ?_ ?_
        · intro g B X hS
          go_simp
        simp only [Act.put, List.setIfInBounds_toArray, List.set_cons_zero, List.set_cons_succ]
        refine SG.seq_pure (fun g => .int .i64 (Z.first : Int)) (fun _ => rfl) (fun _ => by rfl) (fun g B X hL h => h.pure 14 (by decide) (by decide) (by decide) (by decide)) ?_ ?_
        · intro g B X hS
          obtain ⟨x0, x1, x2, x3, x4, x5⟩ := KD.out X (hS.block Q6.out Q6.out.rz.lt2 HQH.out)
          go_simp
        simp only [Act.put, List.setIfInBounds_toArray, List.set_cons_zero, List.set_cons_succ]
        refine SG.seq_pure (fun g => .int .i64 (tt : Int)) (fun _ => rfl) (fun _ => by rfl) (fun g B X hL h => h.pure 15 (by decide) (by decide) (by decide) (by decide)) ?_ ?_
        · intro g B X hS
          go_simp
        simp only [Act.put, List.setIfInBounds_toArray, List.set_cons_zero, List.set_cons_succ]
        refine SG.seq_pure (fun g => .pointer (some ⟨q, 0, none⟩)) (fun _ => rfl) (fun _ => by rfl) (fun g B X hL h => h.pure 16 (by decide) (by decide) (by decide) (by decide)) ?_ ?_
        · intro g B X hS
          go_simp
        simp only [Act.put, List.setIfInBounds_toArray, List.set_cons_zero, List.set_cons_succ]
        refine SG.seq_pure (fun g => .pointer (some ⟨q, 0, none⟩)) (fun _ => rfl) (fun _ => by rfl) (fun g B X hL h => h.pure 17 (by decide) (by decide) (by decide) (by decide)) ?_ ?_
        · intro g B X hS
          go_simp
        simp only [Act.put, List.setIfInBounds_toArray, List.set_cons_zero, List.set_cons_succ]
        refine SG.seq_pure (fun g => .pointer (some ⟨q, 2, none⟩)) (fun _ => rfl) (fun _ => by rfl) (fun g B X hL h => h.pure 18 (by decide) (by decide) (by decide) (by decide)) ?_ ?_
        · intro g B X hS
          go_simp
        simp only [Act.put, List.setIfInBounds_toArray, List.set_cons_zero, List.set_cons_succ]
        refine SG.seq_pure (fun g => .int .i64 (Z.n : Int)) (fun _ => rfl) (fun _ => by rfl) (fun g B X hL h => h.pure 19 (by decide) (by decide) (by decide) (by decide)) ?_ ?_
        · intro g B X hS
          obtain ⟨x0, x1, x2, x3, x4, x5⟩ := KD.out X (hS.block Q6.out Q6.out.rz.lt2 HQH.out)
          go_simp
        simp only [Act.put, List.setIfInBounds_toArray, List.set_cons_zero, List.set_cons_succ]
        refine SG.seq_pure (fun g => .int .i64 (pn : Int)) (fun _ => rfl) (fun _ => by rfl) (fun g B X hL h => h.pure 20 (by decide) (by decide) (by decide) (by decide)) ?_ ?_
        · intro g B X hS
          go_simp
        simp only [Act.put, List.setIfInBounds_toArray, List.set_cons_zero, List.set_cons_succ]
        refine SG.seq_pure (fun g => .int .i64 (at0 : Int)) (fun _ => rfl) (fun _ => by rfl) (fun g B X hL h => h.pure 21 (by decide) (by decide) (by decide) (by decide)) ?_ ?_
        · intro g B X hS
          go_simp
        simp only [Act.put, List.setIfInBounds_toArray, List.set_cons_zero, List.set_cons_succ]
        refine SG.seq_pure (fun g => .slice A6 m6 c6) (fun _ => rfl) (fun _ => by rfl) (fun g B X hL h => h.pure 22 (by decide) (by decide) (by decide) (by decide)) ?_ ?_
        · intro g B X hS
          go_simp
        simp only [Act.put, List.setIfInBounds_toArray, List.set_cons_zero, List.set_cons_succ]
        refine SG.seq_pure (fun g => .agg #[.int .i64 (at0 : Int), .slice A6 m6 c6]) (fun _ => rfl) (fun _ => by rfl) (fun g B X hL h => h.pure 23 (by decide) (by decide) (by decide) (by decide)) ?_ ?_
        · intro g B X hS
          go_simp
        simp only [Act.put, List.setIfInBounds_toArray, List.set_cons_zero, List.set_cons_succ]
        refine SG.seq_made (fun g => .slice (some ⟨g.1, 0, none⟩) 1 1) (fun _ => rfl) (fun _ => by rfl) ?_ ?_
        · intro g B X hL h0 hd hC hS
          refine ⟨(X.heap.size, g.2), X.alloc (.cells #[.int .i64 (at0 : Int), .slice A6 m6 c6] 135), ?_, fun j hj _ => SG.mid_ne _ _ _ _ j hj, hS.lit h0⟩
          go_simp
        simp only [Act.put, List.setIfInBounds_toArray, List.set_cons_zero, List.set_cons_succ]
        refine SG.seq_made (fun g => v8of k g) (fun _ => rfl) (fun _ => by rfl) ?_ ?_
        · intro g B X hL h0 hd hC hS
          have d24 : B.getD 24 false = true := hd ⟨24, .data⟩ (by simp) rfl
          have d10 : B.getD 10 false = true := hd ⟨10, .data⟩ (by simp) rfl
          have b25 := (getD_tf 25 h0).1
          have bX := hS.s1 b25
          have lX := hS.s2 d24 b25
          obtain ⟨i0, hi, hz0, hz1, hz2⟩ := info_parts Tryz.infoLay
          obtain ⟨v8, w8, hrun, r2, r3, _, r5⟩ := run_append_own_at (P := Tryz.prog) X N 59 59 135 i0 (.agg #[.int .i64 0, .slice none 0 0]) 2 32 Tryz.underlying59 hi hz0 hz1 hz2 rfl (by omega) L k vs (own_below OL6.out bX) ⟨g.1, 0, none⟩ 1 1 #[.int .i64 (at0 : Int), .slice A6 m6 c6].toList
            (by simp) (fun j x hj => by
              match j, hj with
              | 0, hj => simp at hj; subst hj; simpa [Addr.add] using lX.cell 0
              | 1, hj => simp at hj; subst hj; simpa [Addr.add] using lX.cell 1
              | j + 2, hj => simp at hj) (fun x hx => by
                simp at hx
                rcases hx with rfl | rfl
                · rfl
                · rfl) (by have := HNM.out; simp only [maxLen]; omega) (by have := HNM.out; omega) (Nat.le_trans (rk_loN Q6.out.rk) bX.size)
          obtain ⟨A8, c8, rfl⟩ := own_formS r2
          refine ⟨(g.1, A8, c8), w8, ?_, fun j hj _ => ?_, hS.app h0 d24 d10 r2 r3 r5⟩
          · exact run_append_lay (.tmp 44) (.tmp 58) rfl rfl rfl hrun
          · exact SG.mid_ne ([.pointer (some ⟨q, 0, none⟩), .pointer (some ⟨q, 0, none⟩), .pointer (some ⟨q, 0, none⟩), .pointer (some ⟨h, 0, none⟩), .pointer (some ⟨q, 0, none⟩), .pointer (some ⟨q, 0, none⟩), .pointer (some ⟨q, 0, none⟩), .pointer (some ⟨h, 0, none⟩), .pointer (some ⟨h, 0, none⟩), .pointer (some ⟨h, 0, none⟩), L, .pointer (some ⟨q, 0, none⟩), .pointer (some ⟨q, 0, none⟩), .pointer (some ⟨q, 1, none⟩), .int .i64 (Z.first : Int), .int .i64 (tt : Int), .pointer (some ⟨q, 0, none⟩), .pointer (some ⟨q, 0, none⟩), .pointer (some ⟨q, 2, none⟩), .int .i64 (Z.n : Int), .int .i64 (pn : Int), .int .i64 (at0 : Int), .slice A6 m6 c6, .agg #[.int .i64 (at0 : Int), .slice A6 m6 c6]] ++ [.slice (some ⟨g.1, 0, none⟩) 1 1]) [.pointer (some ⟨h, 0, none⟩), .pointer (some ⟨h, 0, none⟩), undef] _ _ j (fun e => hj (by rw [e]; rfl))
        simp only [Act.put, List.setIfInBounds_toArray, List.set_cons_zero, List.set_cons_succ]
        refine SG.seq_pure (fun g => .pointer (some ⟨h, 0, none⟩)) (fun _ => rfl) (fun _ => by rfl) (fun g B X hL h => h.pure 26 (by decide) (by decide) (by decide) (by decide)) ?_ ?_
        · intro g B X hS
          go_simp
        simp only [Act.put, List.setIfInBounds_toArray, List.set_cons_zero, List.set_cons_succ]
        refine SG.seq_pure (fun g => .pointer (some ⟨h, 0, none⟩)) (fun _ => rfl) (fun _ => by rfl) (fun g B X hL h => h.pure 27 (by decide) (by decide) (by decide) (by decide)) ?_ ?_
        · intro g B X hS
          go_simp
        simp only [Act.put, List.setIfInBounds_toArray, List.set_cons_zero, List.set_cons_succ]
        refine SG.seq_store (fun _ => rfl) (fun _ => by rfl) ?_ ?_
        · intro g B X hL h0 hd hS
          have d25 : B.getD 25 false = true := hd ⟨25, .data⟩ (by simp) rfl
          have tX : Bk X h 62 _ := ((hS.s3 d25 (getD_tf 28 h0).1).head Q6.out HB6.out.lt).trans HB6.out
          have c9 : X.cell? ⟨h, 0, none⟩ = some L := tX.cell 0
          have f9 := tX.frozen 0
          refine ⟨X.setCell ⟨h, 0, none⟩ (v8of k g), ?_, hS.stored h0 d25⟩
          go_simp
        simp only [Act.put, List.setIfInBounds_toArray, List.set_cons_zero, List.set_cons_succ]
        refine SG.seq_nil ?_
        intro g X hI
        obtain ⟨T', t1, t2, t3⟩ := hI.done Q6.out rfl
        go_wp2_with (fail)
        go_meet
        exact ⟨rfl, _, T', t1, t2, t3⟩
      case rest =>
        obtain ⟨rfl, L1, T1, hq1, s1, m1⟩ := hcut
        have Q1 := Lib.hid hq1
        have S1 := Lib.hid s1
        have M1 := Lib.hid m1
        have R1 := Lib.hid (m1.rd R6.out.2 (fun a hn ha hO => by
          have e1 := (O6.out.lt a.block (by rw [ha]; rfl)).1
          have e2 := (QT.out.lt a.block (out_q QT.out.rz.at_ hO)).2
          have e3 : w.drew.heap.size = w.heap.size := rfl
          omega))
        have RA := Lib.hid (show ∀ a, 0 < m6 → A6 = some a → ¬ G a.block ∧ a.block < wc.heap.size from fun a hn ha => ⟨fun hG => by
          have e1 := (O6.out.lt a.block (by rw [ha]; rfl)).1
          have e2 := (QT.out.rk.lt a.block hG).2
          have e3 : w.drew.heap.size = w.heap.size := rfl
          omega, by
          obtain ⟨bb, off, e, hbb, _⟩ := R1.out.at_ hn
          rw [ha] at e
          injection e with e
          subst e
          exact hbb⟩)
        clear hq1 s1 m1 HB6 OL6 KD GD6 Q6 O6
        obtain ⟨A9, c9', hb9, _⟩ := Q1.out.rz.ex
        have d2 : wc.cell? ⟨q, 2, none⟩ = some (.int .i64 (Z.n : Int)) := hb9.cell 2
        clear hb9
        have HM64 := Lib.hid (show m6 = 64 * Z.n from HM6.out.symm.trans HNM.out.2.2.2.2.1)
        go_wp2_with (fail)
        go_loopg [7, 8] (Z.n + 1) (fun f jv s8 wi => ∃ (j : Nat) (Dj : Dk) (Gj : Nat → Prop), j + f = Z.n + 1 ∧ j ≤ Z.n ∧ jv = .int .i64 (j : Int) ∧ Qs N wi h q L1 (k + 1) Dj Z Gj S T1 ∧ Sl.writes at0 xs (Z.n - j) j Dj = Sl.writes at0 xs Z.n 0 D ∧ (∀ b, Gj b → G b ∨ wc.heap.size ≤ b) ∧ Mv N G wc wi ∧ Dj.cnt ≤ D.cnt + j)
        case atStart => exact ⟨0, D, G, by omega, Nat.zero_le _, rfl, Q1.out, rfl, fun b hb => .inl hb, Mv.refl _ _ _, Nat.le_refl _⟩
        case round =>
          clear d2 Q1
          obtain ⟨j, Dj, Gj, hjf, hjn, rfl, hQ, hW, hG, hMv, hcn⟩ := hrel
          have QR := Lib.hid hQ
          have WR := Lib.hid hW
          have GR := Lib.hid hG
          have MR := Lib.hid hMv
          have CR := Lib.hid hcn
          have HJ := Lib.hid (show j + gk = Z.n + 1 ∧ j ≤ Z.n from ⟨hjf, hjn⟩)
          clear hQ hW hG hMv hcn hjf
          obtain ⟨A9, c9', hb9, _⟩ := QR.out.rz.ex
          have KJ := Lib.hid (show ∀ X : World, X.heap[q]? = wr.heap[q]? → X.cell? ⟨q, 0, none⟩ = some (.pointer (some ⟨h, 0, none⟩)) ∧ X.cell? ⟨q, 1, none⟩ = some (.int .i64 (Z.first : Int)) ∧ X.cell? ⟨q, 2, none⟩ = some (.int .i64 (Z.n : Int)) from fun X hX => by
            have hq : Bk X q 87 (slA h Z A9 c9') := hX.trans hb9
            exact ⟨hq.cell 0, hq.cell 1, hq.cell 2⟩)
          clear hb9
          obtain ⟨d0, d1, d2⟩ := KJ.out wr rfl
          have MB := Lib.hid (show Mv N (Or3 G (fun x => x = q) T) w wr from ((Mv.of (F := Or3 G (fun x => x = q) T) (rk_loN QT.out.rk) R6.out.1).trans M1.out (fun b hb => .inl hb)).trans MR.out (fun b hb => .inl (.inl hb)))
          have FINS := Lib.hid (show ∀ (w7 : World) (G7 S7 : Nat → Prop), (∀ b, G7 b → Gj b ∨ wr.heap.size ≤ b) → (∀ b, S7 b → S b ∨ wr.heap.size ≤ b) → Sub3 G S T G7 S7 T1 w.heap.size from fun w7 G7 S7 h1 h2 => by
            have s6 := R6.out.1.size
            have sc := M1.out.size
            have sr := MR.out.size
            refine ⟨fun b e => ?_, fun b e => ?_, fun b e => ?_⟩
            · rcases h1 b e with e | e
              · rcases GR.out b e with e | e
                · exact .inl e
                · exact .inr (Nat.le_trans s6 (Nat.le_trans sc e))
              · exact .inr (Nat.le_trans s6 (Nat.le_trans sc (Nat.le_trans sr e)))
            · rcases h2 b e with e | e
              · exact .inl e
              · exact .inr (Nat.le_trans s6 (Nat.le_trans sc (Nat.le_trans sr e)))
            · rcases S1.out b e with e | e
              · exact .inl e
              · exact .inr (Nat.le_trans s6 e))
          have FINM := Lib.hid (show ∀ (w7 : World) (F7 : Nat → Prop), Mv N F7 wr w7 → (∀ b, F7 b → Gj b ∨ b = q ∨ wr.heap.size ≤ b) → Mv N (Or3 G (fun x => x = q) T) w w7 from fun w7 F7 m h => MB.out.trans m (fun b hb => by
            rcases h b hb with e | e | e
            · rcases GR.out b e with e | e
              · exact .inl (.inl e)
              · exact .inr (Nat.le_trans R6.out.1.size (Nat.le_trans M1.out.size e))
            · exact .inl (.inr (.inl e))
            · exact .inr (Nat.le_trans MB.out.size e)))
          by_cases hlt : j < Z.n
          · have t0 : (j : Int) < (Z.n : Int) := by omega
            obtain ⟨lj, hlj⟩ : ∃ lj, lj = 64 * j := ⟨_, rfl⟩
            obtain ⟨aj, haj⟩ : ∃ aj, aj = at0 + j := ⟨_, rfl⟩
            have hn8 := HNM.out.1
            have hm64 := HM64.out
            have hpn := HPN.out.2.2
            have hcap := R1.out.cap
            have HB := Lib.hid (show lj + 64 ≤ c6 ∧ lj + 64 ≤ m6 ∧ lj + 64 ≤ 1000000 ∧ lj ≤ 1000000 ∧ aj ≤ 1000000 ∧ 0 < m6 from hb_of hlt hn8 hm64 hpn hcap hlj haj)
            have v1 : (at0 : Int) + (j : Int) = (aj : Int) := by rw [haj]; rfl
            have v2 : wrap64 (aj : Int) = (aj : Int) := (wrap_nat aj HB.out.2.2.2.2.1).1
            have v3 : IntKind.i64.wrap (aj : Int) = (aj : Int) := (wrap_nat aj HB.out.2.2.2.2.1).2
            have v4 : (64 : Int) * (j : Int) = (lj : Int) := by rw [hlj]; rfl
            have v5 : wrap64 (lj : Int) = (lj : Int) := (wrap_nat lj HB.out.2.2.2.1).1
            have v6 : IntKind.i64.wrap (lj : Int) = (lj : Int) := (wrap_nat lj HB.out.2.2.2.1).2
            have v7 : wrap64 ((lj : Int) + 64) = (lj : Int) + 64 := (wrap_nat (lj + 64) HB.out.2.2.1).1
            have v8 : IntKind.i64.wrap ((lj : Int) + 64) = (lj : Int) + 64 := (wrap_nat (lj + 64) HB.out.2.2.1).2
            obtain ⟨Aj, hAj⟩ : ∃ Aj, Aj = if c6 = lj then A6 else A6.map (·.add lj) := ⟨_, rfl⟩
            have P1 : ∀ W, (Instr.slice 23 (.slice A6 m6 c6) (some (.int .i64 (lj : Int))) (some (.int .i64 ((lj : Int) + 64))) none).run Tryz.prog W = .ok (.slice Aj 64 (c6 - lj)) W := fun W => by rw [hAj]; exact run_cutSlLH (l' := lj) (m := 64) rfl rfl HB.out.1 W
            have P2 : ∀ W, (Instr.sliceAt 23 (.slice A6 m6 c6) (some (.int .i64 (lj : Int))) (some (.int .i64 ((lj : Int) + 64))) none).run Tryz.prog W = .ok (.slice Aj 64 (c6 - lj)) W := fun W => by rw [hAj]; exact run_cutSlLHAt (l' := lj) (m := 64) rfl rfl HB.out.1 W
            obtain ⟨xj, hxj⟩ : ∃ xj, xj = Sl.row xs j := ⟨_, rfl⟩
            have RWR := MR.out.rd R1.out (fun a hn ha => (RA.out a hn ha).1)
            have RJ := Lib.hid (show Rd wr Aj 64 (c6 - lj) xj by rw [hxj, hAj, Sl.row, ← hlj]; exact (RWR.cut (k := lj) (by omega)).take (by omega))
            have RJA := Lib.hid (show ∀ a, 0 < 64 → Aj = some a → ¬ Gj a.block from fun a _ ha hGj => by
              obtain ⟨a6, ha6, hab⟩ : ∃ a6, A6 = some a6 ∧ a6.block = a.block := by
                rw [hAj] at ha
                split at ha
                · exact ⟨a, ha, rfl⟩
                · cases hA6 : A6 with
                  | none => rw [hA6] at ha; cases ha
                  | some a6 =>
                    rw [hA6] at ha
                    injection ha with ha
                    exact ⟨a6, rfl, by rw [← ha]; exact (add_block a6 lj).symm⟩
              obtain ⟨e1, e2⟩ := RA.out a6 HB.out.2.2.2.2.2 ha6
              rcases GR.out _ hGj with e | e
              · exact e1 (by rw [hab]; exact e)
              · omega)
            obtain ⟨cd, hcd⟩ : ∃ cd, cd = Dj.writeC (aj : Int) xj := ⟨_, rfl⟩
            obtain ⟨Dn, hDn⟩ : ∃ Dn, Dn = Dj.write (aj : Int) xj := ⟨_, rfl⟩
            have HCN := Lib.hid (show Dn.cnt ≤ Dj.cnt + 1 by rw [hDn]; exact Dk.write_cnt _ _ _)
            have HDL := Lib.hid (show Dn.sure.length = Dj.sure.length by rw [hDn, write_sure])
            have hcnt : Dj.cnt < 1099511627776 := cnt_of CR.out HNM.out.2.2.2.2.2.2.1 hlt HNM.out.1
            have WRC := Lib.hid (show ∀ X, Below wr.heap.size wr X → Calls Tryz.prog 71 #[.pointer (some ⟨h, 0, none⟩), .int .i64 (aj : Int), .slice Aj 64 (c6 - lj)] X (PostR N Gj h L1 X Dn (.int .i64 (cd : Int))) from fun X hX => by
              rw [hcd, hDn]
              exact rwriteD_any N X h Dj Gj (QR.out.rk.grow hX) (aj : Int) Aj 64 (c6 - lj) xj (RJ.out.below hX) hcnt RJA.out)
            have STEP := Lib.hid (show Sl.writes at0 xs (Z.n - j) j Dj = (if cd = 0 then Sl.writes at0 xs (Z.n - (j + 1)) (j + 1) Dn else (cd, Dn)) by
              rw [show Z.n - j = (Z.n - (j + 1)) + 1 by omega, Sl.writes, ← haj, ← hxj, ← hcd, ← hDn])
            have GD := Lib.hid (Below.refl wr.heap.size wr).drew
            have HLT := Lib.hid hlt
            clear hlj haj hn8 hm64 hpn hcap hAj hxj RWR hcd hDn hcnt hlt hjn
            go_upto_region 11 with (fail)
            clear d0 d1 d2
            (go_region_held3 (fun X => X.cell? ⟨q, 0, none⟩ = some (.pointer (some ⟨h, 0, none⟩)) ∧ X.cell? ⟨q, 1, none⟩ = some (.int .i64 (Z.first : Int)) ∧ X.cell? ⟨q, 2, none⟩ = some (.int .i64 (Z.n : Int))) (first
              | exact KJ.out _ HQ7.out
              | exact KJ.out _ (GD.out.block q QR.out.rz.lt2)) (first
              | (go_at_call 71; ((with_reducible refine (WRC.out _ GD.out).mono ?_); rintro e w7 ⟨rfl, G7, r7, s7, m7⟩; have Q7 := Lib.hid ((QR.out.grow GD.out).disk r7 s7 m7 HDL.out); have S7 := Lib.hid s7; have M7 := Lib.hid m7; have HQ7 := Lib.hid (show w7.heap[q]? = wr.heap[q]? from (m7.same q (QR.out.grow GD.out).rz.lt2 (fun hG => QR.out.gs q hG QR.out.rz.at_)).trans (GD.out.block q QR.out.rz.lt2)); clear r7 s7 m7))
              | fail))
            by_cases hz : cd = 0
            · have y5 : ((cd : Int) != 0) = false := by simp [hz]
              have y6 : (cd : Int) = 0 := by omega
              have STEP2 := Lib.hid (STEP.out.trans (if_pos hz))
              clear hz
              have hj9 := small_of HLT.out HNM.out.1
              go_wp2_with (fail)
              go_roundg (gk - 1)
              case rel => 
                have e1 := HJ.out
                have e2 := HLT.out
                have e3 := HCN.out
                have e4 := CR.out
                exact ⟨j + 1, Dn, G7, by omega, by omega, by go_num, Q7.out, STEP2.out.symm.trans WR.out, fun b hb => by
                  rcases S7.out b hb with e | e
                  · exact GR.out b e
                  · exact .inr (Nat.le_trans MR.out.size (Nat.le_trans GD.out.size e)), (MR.out.trans ((Mv.of (Nat.le_trans (rk_loN QR.out.rk) (Nat.le_refl _)) GD.out).trans M7.out (fun b hb => .inl hb)) GR.out), by omega⟩
              case measure => have := HJ.out; have := HLT.out; omega
            · have y5 : ((cd : Int) != 0) = true := by simp; omega
              have y6 : ¬ (cd : Int) = 0 := by omega
              have STEP2 := Lib.hid (STEP.out.trans (if_neg hz))
              have HZ := Lib.hid hz
              clear hz
              go_wp2_with (fail)
              go_ret
              have W0 := STEP2.out.symm.trans WR.out
              have f1 : (Sl.writes (Z.first + tt * Z.n) xs Z.n 0 D) = (cd, Dn) := by rw [← HZ9.out, ← HPN.out.2.1]; exact W0.symm
              have f2 : Z.saveC D b = cd := by rw [HSC.out, f1, if_neg HZ.out]
              have f3 : Z.saveD D b = Dn := by rw [HSD.out, f1, if_neg HZ.out]
              have f4 : Z.save D b = Z := by rw [HSV.out cd f2, if_neg HZ.out]
              rw [f2, f3, f4]
              exact ⟨rfl, L1, k + 1, G7, S, T1, Nat.le_refl _, Q7.out, FINS.out w7 G7 S (fun b hb => (S7.out b hb).imp id (fun e => Nat.le_trans GD.out.size e)) (fun b hb => .inl hb), FINM.out w7 Gj ((Mv.of (Nat.le_trans (rk_loN QR.out.rk) (Nat.le_refl _)) GD.out).trans M7.out (fun b hb => .inl hb)) (fun b hb => .inl hb)⟩
          · have t0 : ¬ (j : Int) < (Z.n : Int) := by omega
            obtain rfl : j = Z.n := by omega
            obtain ⟨cd, hcd⟩ : ∃ cd, cd = Dj.stepC := ⟨_, rfl⟩
            obtain ⟨Dn, hDn⟩ : ∃ Dn, Dn = Dj.flush := ⟨_, rfl⟩
            have hcnt : Dj.cnt < 1099511627776 := cnt_of2 CR.out HNM.out.2.2.2.2.2.2.1 HNM.out.1
            have HDL := Lib.hid (show Dn.sure.length = Dj.sure.length by rw [hDn, flush_len])
            have FC := Lib.hid (show Calls Tryz.prog 72 #[.pointer (some ⟨h, 0, none⟩)] wr (PostR N Gj h L1 wr Dn (.int .i64 (cd : Int))) by rw [hcd, hDn]; exact rflushD_any N wr h Dj Gj QR.out.rk hcnt)
            have W0 := WR.out
            rw [Nat.sub_self] at W0
            have f1 : (Sl.writes (Z.first + tt * Z.n) xs Z.n 0 D) = (0, Dj) := by rw [← HZ9.out, ← HPN.out.2.1]; exact W0.symm
            have F2 := Lib.hid (show Z.saveC D b = cd by rw [HSC.out, f1, if_pos rfl, hcd])
            have F3 := Lib.hid (show Z.saveD D b = Dn by rw [HSD.out, f1, if_pos rfl, hDn])
            have F4 := Lib.hid (HSV.out cd F2.out)
            clear hcd hDn hcnt W0 f1 hlt hjn
            by_cases hz : cd = 0
            · have y6 : (cd : Int) = 0 := by omega
              have y5 : ((cd : Int) == 0) = true := by simp [hz]
              have F5 := Lib.hid (F4.out.trans (if_pos hz))
              clear hz
              go_upto_region 16 with (go_at_call 72; ((with_reducible refine FC.out.mono ?_); rintro e w7 ⟨rfl, G7, r7, s7, m7⟩; have Q7 := Lib.hid (QR.out.disk r7 s7 m7 HDL.out); have S7 := Lib.hid s7; have M7 := Lib.hid m7; clear r7 s7 m7))
              obtain ⟨A9', c9'', hb9', _⟩ := Q7.out.rz.ex
              have k3 : w7.cell? ⟨q, 3, none⟩ = some (.int .i64 Z.at_) := hb9'.cell 3
              have k4 : w7.cell? ⟨q, 4, none⟩ = some (.int .u64 (Z.num : Int)) := hb9'.cell 4
              have k5 : w7.cell? ⟨q, 5, none⟩ = some (.slice A9' Z.b.length c9'') := hb9'.cell 5
              have p3 := hb9'.frozen 3
              have p4 := hb9'.frozen 4
              have p5 := hb9'.frozen 5
              have T7 := Lib.hid hb9'
              have MW7 := Lib.hid (FINM.out w7 Gj M7.out (fun b hb => .inl hb))
              have B7 := Lib.hid (show Below N w w7 from MB.out.bel.trans M7.out.bel)
              have NQ := Lib.hid (show N ≤ q ∧ q < w7.heap.size from Q7.out.rz.lt q Q7.out.rz.at_)
              obtain ⟨wa, hwa⟩ : ∃ wa, wa = (w7.setCell ⟨q, 3, none⟩ (.int .i64 (tt : Int))).setCell ⟨q, 4, none⟩ (.int .u64 (nx : Int)) := ⟨_, rfl⟩
              have Ba := Lib.hid (show Below N w wa by rw [hwa]; exact (B7.out.setCell (p := ⟨q, 3, none⟩) NQ.out.1 _).setCell (p := ⟨q, 4, none⟩) NQ.out.1 _)
              have Ta := Lib.hid (show Bk wa q 87 _ by rw [hwa]; exact (T7.out.put 3 (.int .i64 (tt : Int))).put 4 (.int .u64 (nx : Int)))
              have Sa := Lib.hid (show wa.heap.size = w7.heap.size by rw [hwa]; simp)
              have HWA := Lib.hid hwa
              have RBN := Lib.hid (show Rd wa A nb c b by
                have h0 := HR.out
                refine ⟨h0.len, h0.cap, h0.max, h0.nil, fun hn => ?_⟩
                obtain ⟨bb, off, e, hbb, hc⟩ := h0.at_ hn
                have hnq := HAN.out ⟨bb, off, none⟩ hn e
                have hbq : bb ≠ q := fun e => hnq (.inr (.inl e))
                refine ⟨bb, off, e, Nat.lt_of_lt_of_le hbb (by rw [Sa.out]; exact MW7.out.size), fun j hj => (World.cell?_of_block (a := ⟨bb, off + j, none⟩) ?_).trans (hc j hj)⟩
                rw [HWA.out]
                exact (Below.heap_setCell _ ⟨q, 4, none⟩ _ bb hbq).trans ((Below.heap_setCell _ ⟨q, 3, none⟩ _ bb hbq).trans (MW7.out.same bb hbb hnq)))
              clear hb9'
              have hnbm : nb ≤ 1000000 := by have h1 := HNB.out; exact h1
              go_upto_region 18 with (fail)
              first
                | rw [← hwa]
                | skip
              clear k3 k4 p3 p4 k5 p5 hwa
              go_wp2_with (at_builtin; refine append_rd rfl (.tmp 118) (.tmp 119) rfl wa.heap.size _ 0 [] rfl (World.ownsRow_lit (base := wa.heap.size) (e := 5) (size := 1) wa #[] 0 (Nat.le_refl _) (by simp [maxLen]) rfl) A nb c b rfl (RBN.out.alloc _) (Nat.le_trans (by rw [Nat.zero_add]; exact HNB.out) (by decide)) (by simp) ?_; intro v8 w8 o8 g8; obtain ⟨A8, c8, hv8⟩ := own_form o8; rw [Nat.zero_add] at hv8; subst hv8; have O8 := Lib.hid (own_n o8); have B8 := Lib.hid (((Below.refl wa.heap.size wa).alloc (Nat.le_refl _) _).grown g8 (by simp) (fun q hq => Nat.le_of_eq (Option.some.inj hq))); have T8 := Ta.out.below B8.out Ta.out.lt; have k5 : w8.cell? ⟨q, 5, none⟩ = some (.slice A9' Z.b.length c9'') := T8.cell 5; have p5 := T8.frozen 5; clear o8 g8)
              have HSQ := Lib.hid (slots_setQ (a := (tt : Int)) (nx := nx) (nb := nb) (c8 := c8) (A8 := A8) (w8 := w8) Q7.out (by rw [← HWA.out]; exact B8.out.mono (Nat.le_of_eq Sa.out.symm)))
              have HS := Lib.hid (slots_set (a := (tt : Int)) (nx := nx) (nb := nb) (c8 := c8) (A8 := A8) (b := b) (w8 := w8) Q7.out (by rw [← HWA.out]; exact B8.out.mono (Nat.le_of_eq Sa.out.symm)) (Rd.own O8.out) (fun x _ e => by have := (O8.out.lt x.block (by rw [e]; rfl)).1; rw [Sa.out] at this; exact this) (at_of HNM.out.2.2.2.1) HNM.out.2.2.2.2.2.1)
              go_ret
              rw [F2.out, F3.out, F5.out]
              refine ⟨by rw [y6]; rfl, L1, k + 1, G7, _, T1, Nat.le_refl _, HS.out.1, FINS.out w8 G7 _ (fun b hb => S7.out b hb) (fun b hb => ?_), FINM.out _ (fun b => Gj b ∨ b = q) ((M7.out.mono (fun b hb => .inl hb)).trans (HSQ.out.mono (fun b hb => .inr hb)) (fun b hb => .inl hb)) (fun b hb => hb.imp id .inl)⟩
              exact (HS.out.2.2 b hb).imp id (fun e => Nat.le_trans M7.out.size e)
            · have y5 : ((cd : Int) == 0) = false := by simp; omega
              have y6 : ¬ (cd : Int) = 0 := by omega
              have F5 := Lib.hid (F4.out.trans (if_neg hz))
              clear hz
              go_wp2_with (go_at_call 72; ((with_reducible refine FC.out.mono ?_); rintro e w7 ⟨rfl, G7, r7, s7, m7⟩; have Q7 := Lib.hid (QR.out.disk r7 s7 m7 HDL.out); have S7 := Lib.hid s7; have M7 := Lib.hid m7; clear r7 s7 m7))
              go_ret
              rw [F2.out, F3.out, F5.out]
              exact ⟨rfl, L1, k + 1, G7, S, T1, Nat.le_refl _, Q7.out, FINS.out w7 G7 S (fun b hb => S7.out b hb) (fun b hb => .inl hb), FINM.out w7 Gj M7.out (fun b hb => .inl hb)⟩
end Go.Proofs.YtnoflgkjdibblaaGreatDoor.S20
