/-
  One step on both disks, over the contracts. No statement is proved here. (Written by gendki.py.)
-/
import Derived.Test.YtammgingmkdfhaaDkH
namespace Go.Proofs.Ytammgingmkdfhaa.S19
set_option linter.unusedSimpArgs false
set_option linter.unusedVariables false
set_option maxRecDepth 4096
open Go.RowKit

set_option maxHeartbeats 16000000 in
theorem do_any {L : Value} (M : DC) (N : Nat) (w : World) (g h : Nat) (D : Dk) (F G : Nat → Prop) (t : Two M N w g h L D D F G) (hN : N ≤ w.heap.size) (hok : ∀ X, Below N w X → M.ok X) (hcn : D.cnt < 1099511627776)
    (kk ai : Int) (ac1 : UInt8) (as1 : Bool) (ca : Option Addr) (cn cc : Nat) (ch : List UInt8) (fa : Option Addr) (fn fc : Nat) (fs : List Int) (st : Int)
    (hch : ∀ X, Below N w X → Rd X ca cn cc ch) (hfs : ∀ X, Below N w X → RI X .i64 fa fn fc fs) (hcl : ∀ a, 0 < cn → ca = some a → a.block < N) (hfl : ∀ a, 0 < fn → fa = some a → a.block < N) (hf3 : fn ≤ 1099511627776) :
    Calls Try.prog 11 #[.pointer (some ⟨g, 0, none⟩), .pointer (some ⟨h, 0, none⟩), .agg #[.int .i64 kk, .int .i64 ai, .int .u8 (ac1.toNat : Int), .bool as1, .slice ca cn cc, .slice fa fn fc, .int .i64 st]] w fun e w' => e = .returned (.bool true) ∧ ∃ (D1 : Dk) (F1 G1 : Nat → Prop), Two M N w' g h L D1 D1 F1 G1 ∧ Below N w w' ∧ D1.cnt ≤ D.cnt + 1 := by
  have HF3 := Lib.hid hf3
  clear hf3
  obtain ⟨pa, hpa⟩ : ∃ pa, pa = w.heap.size := ⟨_, rfl⟩
  obtain ⟨w0, hw0⟩ : ∃ w0, w.alloc (.cells #[.int .i64 kk, .int .i64 ai, .int .u8 (ac1.toNat : Int), .bool as1, .slice ca cn cc, .slice fa fn fc, .int .i64 st] 35) = w0 := ⟨_, rfl⟩
  have G0 := Lib.hid (show Below w.heap.size w w0 by rw [← hw0]; exact (Below.refl _ _).alloc (Nat.le_refl _) _)
  have TA := Lib.hid (show Bk w0 pa 35 #[.int .i64 kk, .int .i64 ai, .int .u8 (ac1.toNat : Int), .bool as1, .slice ca cn cc, .slice fa fn fc, .int .i64 st] by rw [← hw0]; exact Bk.newAt _ _ _ _ hpa.symm)
  have IA := Lib.hid (t.grow G0.out)
  have BA := Lib.hid (show Below N w w0 from G0.out.mono hN)
  have PA := Lib.hid (show ¬ F pa ∧ ¬ G pa from ⟨fun e => by have := (M.lt t.is pa e).2; omega, fun e => by have := (t.rk.lt pa e).2; omega⟩)
  have KP := Lib.hid (show ∀ X, Bk X pa 35 #[.int .i64 kk, .int .i64 ai, .int .u8 (ac1.toNat : Int), .bool as1, .slice ca cn cc, .slice fa fn fc, .int .i64 st] → X.cell? ⟨pa, 0, none⟩ = some (.int .i64 kk) ∧ X.cell? ⟨pa, 1, none⟩ = some (.int .i64 ai) ∧ X.cell? ⟨pa, 2, none⟩ = some (.int .u8 (ac1.toNat : Int)) ∧ X.cell? ⟨pa, 3, none⟩ = some (.bool as1) ∧ X.cell? ⟨pa, 4, none⟩ = some (.slice ca cn cc) ∧ X.cell? ⟨pa, 5, none⟩ = some (.slice fa fn fc) ∧ X.cell? ⟨pa, 6, none⟩ = some (.int .i64 st) from fun X h => ⟨h.cell 0, h.cell 1, h.cell 2, h.cell 3, h.cell 4, h.cell 5, h.cell 6⟩)
  have OKN := Lib.hid hok
  have RCH := Lib.hid hch
  have RFS := Lib.hid hfs
  have CLN := Lib.hid hcl
  have FLN := Lib.hid hfl
  have BN := Lib.hid (show ∀ X Y, Below N w X → Below X.heap.size X Y → Below N w Y from fun X Y h h' => h.trans (h'.mono (by have := h.size; omega)))
  have FSUB := Lib.hid (show ∀ (F F1 : Nat → Prop) (X : World), (∀ b, F1 b → F b ∨ X.heap.size ≤ b ∨ N ≤ b ∧ ∃ a, 0 < fn ∧ fa = some a ∧ a.block = b) → ∀ b, F1 b → F b ∨ X.heap.size ≤ b from fun F F1 X h b hb => by
    rcases h b hb with h | h | ⟨h, a, h1, h2, h3⟩
    · exact .inl h
    · exact .inr h
    · have := FLN.out a h1 h2; omega)
  have HCN := Lib.hid hcn
  have HPA := Lib.hid hpa
  obtain ⟨c0, c1, c2, c3, c4, c5, c6⟩ := KP.out _ TA.out
  clear t hok hch hfs hcl hfl G0 hpa
  rcases Decidable.em (kk = 0) with z0 | y0
  · subst z0
    obtain ⟨nb, hnb⟩ : ∃ nb, nb = rowN as1 := ⟨_, rfl⟩
    obtain ⟨xb, hxb⟩ : ∃ xb, xb = rowL ac1 nb := ⟨_, rfl⟩
    obtain ⟨cd, hcd⟩ : ∃ cd, cd = D.writeC ai xb := ⟨_, rfl⟩
    obtain ⟨D1, hD1⟩ : ∃ D1, D1 = D.write ai xb := ⟨_, rfl⟩
    have HCW := Lib.hid (show D1.cnt ≤ D.cnt + 1 by rw [hD1]; exact Dk.write_cnt D ai xb)
    have LRW := Lib.hid (show xb.length = nb by rw [hxb]; exact rowL_len _ _)
    have CRW := Lib.hid (show ∀ X, Calls Try.prog 16 #[.int .u8 (ac1.toNat : Int), .bool as1] X (New X.heap.size X xb) from fun X => by rw [hxb, hnb]; exact row_any ac1 as1 X)
    have WL := Lib.hid (show ∀ X A c F, Below N w X → Two M N X g h L D D F G → Rd X A nb c xb → (∀ a, 0 < nb → A = some a → ¬ F a.block) → Calls Try.prog 15 #[.pointer (some ⟨g, 0, none⟩), .int .i64 ai, .slice A nb c] X (fun e w' => e = .returned (.int .i64 (cd : Int)) ∧ ∃ F', Two M N w' g h L D1 D F' G ∧ Mv N F X w') from fun X A c F hX hI hR hZ => by
      rw [hcd, hD1]
      exact (M.write N X g D F ai A nb c xb (OKN.out X hX) hI.is hR hZ HCN.out).mono fun e w' hp => hI.postL hp)
    have WR := Lib.hid (show ∀ X A c F, Two M N X g h L D1 D F G → Rd X A nb c xb → (∀ a, 0 < nb → A = some a → ¬ G a.block) → Calls Try.prog 26 #[.pointer (some ⟨h, 0, none⟩), .int .i64 ai, .slice A nb c] X (fun e w' => e = .returned (.int .i64 (cd : Int)) ∧ ∃ G', Two M N w' g h L D1 D1 F G' ∧ Mv N G X w') from fun X A c F hI hR hA => by
      rw [hcd]
      exact (rwriteD_any N X h D G hI.rk ai A nb c xb hR HCN.out hA).mono fun e w' hp => by
        obtain ⟨q1, G', q2, q3⟩ := hI.postR hp
        exact ⟨q1, G', by rw [hD1] at q2 ⊢; exact q2, q3⟩)
    clear hnb hxb hcd hD1 hcn
    go_enter Try.func11, Try.ntmps11
    go_upto_region 1 with (fail)
    first
      | rw [hw0]
      | skip
    rw [← HPA.out]
    clear hw0
    go_upto_region 3 with (fail)
    (go_region_held3 (fun X => X.cell? ⟨pa, 0, none⟩ = some (.int .i64 0) ∧ X.cell? ⟨pa, 1, none⟩ = some (.int .i64 ai) ∧ X.cell? ⟨pa, 2, none⟩ = some (.int .u8 (ac1.toNat : Int)) ∧ X.cell? ⟨pa, 3, none⟩ = some (.bool as1) ∧ X.cell? ⟨pa, 4, none⟩ = some (.slice ca cn cc) ∧ X.cell? ⟨pa, 5, none⟩ = some (.slice fa fn fc) ∧ X.cell? ⟨pa, 6, none⟩ = some (.int .i64 st)) (first
      | exact KP.out _ T8.out
      | exact KP.out _ T7.out
      | exact KP.out _ T6.out
      | exact KP.out _ T5.out
      | exact KP.out _ TA.out.drew) (first
      | (go_at_call 16; ((with_reducible refine (CRW.out w0.drew).mono ?_); rintro e w5 ⟨A5, n5, c5, rfl, q5, b5⟩; obtain rfl : nb = n5 := LRW.out.symm.trans (own_len q5); have R5 := Lib.hid (Rd.own q5); have Z5 := Lib.hid (own_off M (IA.out.grow (Below.refl _ _).drew).is q5); have T5 := Lib.hid (TA.out.drew.below b5 TA.out.lt); have I5 := Lib.hid ((IA.out.grow (Below.refl _ _).drew).grow b5); have B5 := Lib.hid (BN.out _ _ (BN.out _ _ BA.out (Below.refl _ _).drew) b5); clear q5 b5))
      | (go_at_call 15; ((with_reducible refine (WL.out _ A5 c5 F B5.out I5.out R5.out Z5.out).mono ?_); rintro e w6 ⟨rfl, F6, i6, m6⟩; have I6 := Lib.hid i6; have T6 := Lib.hid (m6.bk T5.out PA.out.1); have B6 := Lib.hid (B5.out.trans m6.bel); clear i6 m6))
      | (go_at_call 16; ((with_reducible refine (CRW.out w6).mono ?_); rintro e w7 ⟨A7, n7, c7, rfl, q7, b7⟩; obtain rfl : nb = n7 := LRW.out.symm.trans (own_len q7); have P7 := Lib.hid (show ∀ a, 0 < nb → A7 = some a → ¬ G a.block from fun a _ e hG => by have q1 := (q7.lt a.block (by rw [e]; rfl)).1; have q2 := (I6.out.rk.lt _ hG).2; omega); have R7 := Lib.hid (Rd.own q7); have T7 := Lib.hid (T6.out.below b7 T6.out.lt); have I7 := Lib.hid (I6.out.grow b7); have B7 := Lib.hid (BN.out _ _ B6.out b7); clear q7 b7))
      | (go_at_call 26; ((with_reducible refine (WR.out _ A7 c7 F6 I7.out R7.out P7.out).mono ?_); rintro e w8 ⟨rfl, G8, i8, m8⟩; have I8 := Lib.hid i8; have T8 := Lib.hid (m8.bk T7.out PA.out.2); have B8 := Lib.hid (B7.out.trans m8.bel); clear i8 m8))
      | fail))
    go_wp2_with (fail)
    go_ret
    exact ⟨rfl, D1, F6, G8, I8.out, B8.out, HCW.out⟩
  have y0b : (kk == 0) = false := by simpa using y0
  rcases Decidable.em (kk = 1) with z1 | y1
  · subst z1
    obtain ⟨xs, hxs⟩ : ∃ xs, xs = D.readB ai := ⟨_, rfl⟩
    obtain ⟨nx, hnx⟩ : ∃ nx, nx = xs.length := ⟨_, rfl⟩
    obtain ⟨rc, hrc⟩ : ∃ rc, rc = D.readC ai := ⟨_, rfl⟩
    have RL := Lib.hid (show ∀ X F, Below N w X → Two M N X g h L D D F G → Calls Try.prog 22 #[.pointer (some ⟨g, 0, none⟩), .int .i64 ai] X (fun e w' => ∃ A c F', e = .returned (.tuple #[.slice A nx c, .int .i64 (rc : Int)]) ∧ Rd w' A nx c xs ∧ Two M N w' g h L D D F' G ∧ Mv N F X w') from fun X F hX hI => by
      rw [hnx, hrc, hxs]
      exact (M.read N X g D F ai (OKN.out X hX) hI.is).mono fun e w' ⟨A, c, F', q1, q2, _, q4, q5, q6⟩ => ⟨A, c, F', q1, q2, hI.left q4 q5 q6, q6⟩)
    have RR := Lib.hid (show ∀ X F, Two M N X g h L D D F G → Calls Try.prog 27 #[.pointer (some ⟨h, 0, none⟩), .int .i64 ai] X (fun e w' => ∃ A c, e = .returned (.tuple #[.slice A nx c, .int .i64 (rc : Int)]) ∧ Rd w' A nx c xs ∧ Below X.heap.size X w') from fun X F hI => by
      rw [hnx, hrc, hxs]
      exact (rreadD_any N X h D G hI.rk ai).mono fun e w' ⟨A, c, q1, q2, _, q4⟩ => ⟨A, c, q1, q2, q4⟩)
    clear hxs hnx hrc hcn
    go_enter Try.func11, Try.ntmps11
    go_upto_region 1 with (fail)
    first
      | rw [hw0]
      | skip
    rw [← HPA.out]
    clear hw0
    go_wp2_with (first
      | (go_at_call 22; ((with_reducible refine (RL.out _ F BA.out IA.out).mono ?_); rintro e w6 ⟨A6, c6', F6, rfl, r6, i6, m6⟩; have R6 := Lib.hid r6; have I6 := Lib.hid i6; have T6 := Lib.hid (m6.bk TA.out PA.out.1); have B6 := Lib.hid (BA.out.trans m6.bel); have d1 : w6.cell? ⟨pa, 1, none⟩ = some (.int .i64 ai) := T6.out.cell 1; clear r6 i6 m6))
      | (go_at_call 27; ((with_reducible refine (RR.out _ F6 I6.out).mono ?_); rintro e w7 ⟨A7, c7', rfl, r7, b7⟩; have R7 := Lib.hid r7; have S7 := Lib.hid (R6.out.below b7); have I7 := Lib.hid (I6.out.grow b7); have B7 := Lib.hid (BN.out _ _ B6.out b7); clear r7 b7))
      | (go_at_call 19; ((with_reducible refine (rsame_true A6 A7 nx c6' nx c7' xs xs _ S7.out R7.out rfl).mono ?_); rintro e w8 ⟨rfl, b8⟩; have I8 := Lib.hid (I7.out.grow b8); have B8 := Lib.hid (BN.out _ _ B7.out b8); clear b8)))
    go_ret
    exact ⟨rfl, D, F6, G, I8.out, B8.out, by omega⟩
  have y1b : (kk == 1) = false := by simpa using y1
  rcases Decidable.em (kk = 2) with z2 | y2
  · subst z2
    obtain ⟨cd, hcd⟩ : ∃ cd, cd = D.stepC := ⟨_, rfl⟩
    obtain ⟨D1, hD1⟩ : ∃ D1, D1 = D.flush := ⟨_, rfl⟩
    have HCW := Lib.hid (show D1.cnt ≤ D.cnt + 1 by rw [hD1]; exact Dk.flush_cnt D)
    have WL := Lib.hid (show ∀ X F, Below N w X → Two M N X g h L D D F G → Calls Try.prog 17 #[.pointer (some ⟨g, 0, none⟩)] X (fun e w' => e = .returned (.int .i64 (cd : Int)) ∧ ∃ F', Two M N w' g h L D1 D F' G ∧ Mv N F X w') from fun X F hX hI => by
      rw [hcd, hD1]
      exact (M.flush N X g D F (OKN.out X hX) hI.is HCN.out).mono fun e w' hp => hI.postL hp)
    have WR := Lib.hid (show ∀ X F, Two M N X g h L D1 D F G → Calls Try.prog 28 #[.pointer (some ⟨h, 0, none⟩)] X (fun e w' => e = .returned (.int .i64 (cd : Int)) ∧ ∃ G', Two M N w' g h L D1 D1 F G' ∧ Mv N G X w') from fun X F hI => by
      rw [hcd]
      exact (rflushD_any N X h D G hI.rk HCN.out).mono fun e w' hp => by
        obtain ⟨q1, G', q2, q3⟩ := hI.postR hp
        exact ⟨q1, G', by rw [hD1] at q2 ⊢; exact q2, q3⟩)
    clear hcd hD1 hcn
    go_enter Try.func11, Try.ntmps11
    go_upto_region 1 with (fail)
    first
      | rw [hw0]
      | skip
    rw [← HPA.out]
    clear hw0
    go_wp2_with (first
      | (go_at_call 17; ((with_reducible refine (WL.out _ F BA.out IA.out).mono ?_); rintro e w6 ⟨rfl, F6, i6, m6⟩; have I6 := Lib.hid i6; have B6 := Lib.hid (BA.out.trans m6.bel); clear i6 m6))
      | (go_at_call 28; ((with_reducible refine (WR.out _ F6 I6.out).mono ?_); rintro e w8 ⟨rfl, G8, i8, m8⟩; have I8 := Lib.hid i8; have B8 := Lib.hid (B6.out.trans m8.bel); clear i8 m8)))
    go_ret
    exact ⟨rfl, D1, F6, G8, I8.out, B8.out, HCW.out⟩
  have y2b : (kk == 2) = false := by simpa using y2
  rcases Decidable.em (kk = 3) with z3 | y3
  · subst z3
    obtain ⟨D1, hD1⟩ : ∃ D1, D1 = D.up ch fs st := ⟨_, rfl⟩
    have HCW := Lib.hid (show D1.cnt ≤ D.cnt + 1 by rw [hD1]; exact Nat.zero_le _)
    have WL := Lib.hid (show ∀ X F, Below N w X → Two M N X g h L D D F G → Calls Try.prog 18 #[.pointer (some ⟨g, 0, none⟩), .slice ca cn cc, .agg #[.slice fa fn fc, .int .i64 st]] X (fun e w' => e = .returned (.tuple #[]) ∧ ∃ F', Two M N w' g h L D1 D F' G ∧ Mv N F X w') from fun X F hX hI => by
      rw [hD1]
      exact (M.up N X g D F ca cn cc ch fa fn fc fs st (OKN.out X hX) hI.is (RCH.out X hX) (fun a h1 h2 h3 => by have := CLN.out a h1 h2; have := (M.lt hI.is _ h3).1; omega) (RFS.out X hX) (fun a h1 h2 h3 => by have := FLN.out a h1 h2; have := (M.lt hI.is _ h3).1; omega) HF3.out).mono fun e w' ⟨q1, F', q2, q3, q4⟩ => ⟨q1, F', hI.left q2 (FSUB.out F F' X q3) q4, q4⟩)
    have WR := Lib.hid (show ∀ X F, Below N w X → Two M N X g h L D1 D F G → Calls Try.prog 29 #[.pointer (some ⟨h, 0, none⟩), .slice ca cn cc, .agg #[.slice fa fn fc, .int .i64 st]] X (fun e w' => e = .returned (.tuple #[]) ∧ ∃ G', Two M N w' g h L D1 D1 F G' ∧ Mv N G X w') from fun X F hX hI => by
      exact (rupD_any N X h D G hI.rk ca cn cc ch (RCH.out X hX) CLN.out fa fn fc fs st (RFS.out X hX) FLN.out).mono fun e w' hp => by
        obtain ⟨q1, G', q2, q3⟩ := hI.postR hp
        exact ⟨q1, G', by rw [hD1] at q2 ⊢; exact q2, q3⟩)
    clear hD1 hcn
    go_enter Try.func11, Try.ntmps11
    go_upto_region 1 with (fail)
    first
      | rw [hw0]
      | skip
    rw [← HPA.out]
    clear hw0
    go_wp2_with (first
      | (go_at_call 18; ((with_reducible refine (WL.out _ F BA.out IA.out).mono ?_); rintro e w6 ⟨rfl, F6, i6, m6⟩; have I6 := Lib.hid i6; have T6 := Lib.hid (m6.bk TA.out PA.out.1); have B6 := Lib.hid (BA.out.trans m6.bel); have d4 : w6.cell? ⟨pa, 4, none⟩ = some (.slice ca cn cc) := T6.out.cell 4; have d5 : w6.cell? ⟨pa, 5, none⟩ = some (.slice fa fn fc) := T6.out.cell 5; have d6 : w6.cell? ⟨pa, 6, none⟩ = some (.int .i64 st) := T6.out.cell 6; clear i6 m6))
      | (go_at_call 29; ((with_reducible refine (WR.out _ F6 B6.out I6.out).mono ?_); rintro e w8 ⟨rfl, G8, i8, m8⟩; have I8 := Lib.hid i8; have B8 := Lib.hid (B6.out.trans m8.bel); clear i8 m8)))
    go_ret
    exact ⟨rfl, D1, F6, G8, I8.out, B8.out, HCW.out⟩
  have y3b : (kk == 3) = false := by simpa using y3
  rcases Decidable.em (kk = 4) with z4 | y4
  · subst z4
    have SP := Lib.hid (show ∀ X F, Below N w X → Two M N X g h L D D F G → Calls Try.prog 20 #[.pointer (some ⟨g, 0, none⟩)] X (fun e w' => e = .returned (.tuple #[]) ∧ ∃ F', Two M N w' g h L D.halt D F' G ∧ Mv N F X w') from fun X F hX hI => by
      exact (M.stop N X g D F (OKN.out X hX) hI.is).mono fun e w' hp => hI.postL hp)
    clear hcn
    go_enter Try.func11, Try.ntmps11
    go_upto_region 1 with (fail)
    first
      | rw [hw0]
      | skip
    rw [← HPA.out]
    clear hw0
    go_wp2_with (go_at_call 20; ((with_reducible refine (SP.out _ F BA.out IA.out).mono ?_); rintro e w6 ⟨rfl, F6, i6, m6⟩; have I6 := Lib.hid i6; have B6 := Lib.hid (BA.out.trans m6.bel); obtain ⟨V6, t6⟩ := i6.rk.cells; have k7 : w6.cell? ⟨h, 7, none⟩ = some (.bool D.off) := t6.cell 7; have f7 := t6.frozen 7; clear i6 m6 t6))
    go_ret
    obtain ⟨q1, q2⟩ := I6.out.rk.off
    exact ⟨rfl, D.halt, F6, G, I6.out.right q1 (fun b hb => .inl hb) q2, B6.out.trans q2.bel, by show D.cnt ≤ _; omega⟩
  have y4b : (kk == 4) = false := by simpa using y4
  rcases Decidable.em (kk = 5) with z5 | y5
  · subst z5
    have SP := Lib.hid (show ∀ X F, Below N w X → Two M N X g h L D D F G → Calls Try.prog 21 #[.pointer (some ⟨g, 0, none⟩), .agg #[.slice fa fn fc, .int .i64 st]] X (fun e w' => e = .returned (.tuple #[]) ∧ ∃ F', Two M N w' g h L (D.plan fs st) D F' G ∧ Mv N F X w') from fun X F hX hI => by
      exact (M.plan N X g D F fa fn fc fs st (OKN.out X hX) hI.is (RFS.out X hX) HF3.out).mono fun e w' ⟨q1, F', q2, q3, q4⟩ => ⟨q1, F', hI.left q2 (FSUB.out F F' X q3) q4, q4⟩)
    clear hcn
    go_enter Try.func11, Try.ntmps11
    go_upto_region 1 with (fail)
    first
      | rw [hw0]
      | skip
    rw [← HPA.out]
    clear hw0
    go_wp2_with (go_at_call 21; ((with_reducible refine (SP.out _ F BA.out IA.out).mono ?_); rintro e w6 ⟨rfl, F6, i6, m6⟩; have I6 := Lib.hid i6; have T6 := Lib.hid (m6.bk TA.out PA.out.1); have B6 := Lib.hid (BA.out.trans m6.bel); obtain ⟨V6, t6⟩ := i6.rk.cells; have k4 : w6.cell? ⟨h, 4, none⟩ = some (.slice V6.AF V6.nF V6.cF) := t6.cell 4; have k5 : w6.cell? ⟨h, 5, none⟩ = some (.int .i64 D.stop) := t6.cell 5; have f4 := t6.frozen 4; have f5 := t6.frozen 5; have d5 : w6.cell? ⟨pa, 5, none⟩ = some (.slice fa fn fc) := T6.out.cell 5; have d6 : w6.cell? ⟨pa, 6, none⟩ = some (.int .i64 st) := T6.out.cell 6; clear i6 m6 t6))
    go_ret
    obtain ⟨q1, q2⟩ := I6.out.rk.plan (st := st) (fun X hX => RFS.out X (B6.out.trans hX)) FLN.out
    exact ⟨rfl, D.plan fs st, F6, G, I6.out.right q1 (fun b hb => .inl hb) q2, B6.out.trans q2.bel, by show D.cnt ≤ _; omega⟩
  have y5b : (kk == 5) = false := by simpa using y5
  clear hcn
  go_enter Try.func11, Try.ntmps11
  go_upto_region 1 with (fail)
  first
    | rw [hw0]
    | skip
  rw [← HPA.out]
  clear hw0
  go_wp2_with (fail)
  go_ret
  exact ⟨rfl, D, F, G, IA.out, BA.out, by omega⟩
end Go.Proofs.Ytammgingmkdfhaa.S19
