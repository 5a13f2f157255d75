/-
  Texts put together: WpKB. No statement is proved here.
-/
import Derived.Test.YtkpfppiedadmbaaGreatDoorWo28

/-
  The landed wplus.Stands. No statement is proved here.
-/
namespace Go.Proofs.YtkpfppiedadmbaaGreatDoor.S15
set_option linter.unusedSimpArgs false
set_option linter.unusedVariables false
set_option maxRecDepth 1024
open Go.RowKit Go.Shelf RD
attribute [local go_sem] Oper.semAt_some

set_option maxHeartbeats 4000000 in
theorem stands_core (As : Option Addr) (cs ly tr qq : Nat) (At : Option Addr) (ct : Nat) (Ag : Option Addr) (cg : Nat) (sig : List UInt8) (w : World) (U : Nat → List UInt8) (ds : List Nat) (N : List (List UInt8)) (zz : List UInt8) (sg : Rd w Ag 2144 cg sig)
    (all : ∀ X, Below w.heap.size w X → Calls Tryz.prog 59 #[.slice At 32 ct, .int .i64 4] X (S7.GivesI X.heap.size X ds))
    (up : ∀ (X : World) (k : Nat) (B : Option Addr) (cB : Nat), Below w.heap.size w X → k < 67 → Rd X B 32 cB ((sig.drop (32 * k)).take 32) → Calls Tryz.prog 61 #[.agg (lfS As cs ly tr qq), .int .i64 (k : Int), .int .i64 ((ds.getD k 0 : Nat) : Int), .int .i64 15, .slice B 32 cB] X fun e w' => ∃ A c, e = .returned (.slice A 32 c) ∧ Rd w' A 32 c (U k) ∧ (∀ a, A = some a → B = some a ∨ X.heap.size ≤ a.block) ∧ Below X.heap.size X w')
    (sum : ∀ (X : World) (B : Option Addr) (cB : Nat), Below w.heap.size w X → RdBs X B 67 cB N → Calls Tryz.prog 75 #[.agg (lfS As cs ly tr qq), .slice B 67 cB] X (New X.heap.size X zz))
    (dl : ds.length = 67) (eg : ∀ k, k < 67 → N[k]?.getD [] = U k) (el : N.length = 67) :
    Calls Tryz.prog 46 #[.slice As 32 cs, .int .u32 (ly : Int), .int .u64 (tr : Int), .int .u32 (qq : Int), .slice At 32 ct, .slice Ag 2144 cg] w (New w.heap.size w zz) := by
  have ALL := Lib.hid all
  have UP := Lib.hid up
  have SUM := Lib.hid sum
  have DLN := Lib.hid dl
  have EG := Lib.hid eg
  have EL := Lib.hid el
  have SG := Lib.hid sg
  clear all up sum dl eg el sg
  obtain ⟨i0, hi, hz0, hz1, hz2⟩ := info_parts Tryz.infoRows
  have HI := Lib.hid hi
  clear hi
  have hmix : Tryz.prog.follows .mixedOrders = true := by kernel_rfl
  refine (callsIn_wide (n := 3)).1 ?_
  refine callsIn_of_wp_marks Tryz.func46 rfl trivial ?_ rfl
  simp only [Tryz.ntmps46, List.size_toArray, List.length_cons, List.length_nil, Nat.reduceAdd, Nat.reduceSub, Array.replicate_succ, Array.replicate_zero, List.push_toArray, List.append_toArray, List.nil_append, List.cons_append]
  refine wpIn_wide.2 ?_
  go_upto_region 4 with (go_at_call 59; ((with_reducible refine (ALL.out _ (Below.refl _ _)).mono ?_); intro e w1 h1; obtain ⟨A1, c1, rfl, r1, b1⟩ := h1; rw [DLN.out] at r1; have R1 := Lib.hid r1; have B1 := Lib.hid b1; clear b1 r1; rw [DLN.out]))
  obtain ⟨d, hd⟩ : ∃ d, w1.heap.size = d := ⟨_, rfl⟩
  obtain ⟨fb, fo, rfl, hfb, hfc⟩ := R1.out.at_ (by omega)
  obtain ⟨w3, hw3⟩ : ∃ w3, (w1.alloc (.cells (lfS As cs ly tr qq) 85)).alloc (.cells #[.slice (some ⟨fb, fo, none⟩) 67 c1] 86) = w3 := ⟨_, rfl⟩
  obtain ⟨w4, hw4⟩ : ∃ w4, w3.alloc (.cells #[.slice none 0 0] 61) = w4 := ⟨_, rfl⟩
  have D3 : Bk w3 d 85 (lfS As cs ly tr qq) := by rw [← hw3]; exact (Bk.newAt _ _ _ _ hd).alloc _
  have F3 : Bk w3 (d + 1) 86 #[.slice (some ⟨fb, fo, none⟩) 67 c1] := by rw [← hw3]; exact Bk.newAt _ _ _ _ (by simp [hd])
  have S3 : w3.heap.size = d + 2 := by rw [← hw3]; simp [hd]
  have B31 : Below w1.heap.size w1 w3 := by rw [← hw3]; exact ((Below.refl _ _).alloc (Nat.le_refl _) _).alloc (by simp) _
  have B3 : Below w.heap.size w w3 := B1.out.trans (B31.mono B1.out.size)
  have D4 := Lib.hid (show Bk w4 d 85 (lfS As cs ly tr qq) by rw [← hw4]; exact D3.alloc _)
  have F4 := Lib.hid (show Bk w4 (d + 1) 86 #[.slice (some ⟨fb, fo, none⟩) 67 c1] by rw [← hw4]; exact F3.alloc _)
  have E4 := Lib.hid (show Bk w4 (d + 2) 61 #[.slice none 0 0] by rw [← hw4]; exact Bk.newAt _ _ _ _ S3)
  have S4 := Lib.hid (show w4.heap.size = d + 3 by rw [← hw4]; simp [S3])
  have B4 := Lib.hid (show Below w.heap.size w w4 by rw [← hw4]; exact B3.alloc B3.size _)
  have C4 := Lib.hid (show ∀ k, k < 67 → w4.cell? ⟨fb, fo + k, none⟩ = some (.int .i64 ((ds.getD k 0 : Nat) : Int)) from by
    intro k hk
    rw [← hw4]
    exact ((B31.alloc B31.size (.cells #[.slice none 0 0] 61)).cell (p := ⟨fb, fo + k, none⟩) hfb).trans (hfc k hk))
  have HFB := Lib.hid (show fb < d by rw [← hd]; exact hfb)
  have HWD := Lib.hid (show w.heap.size ≤ d by rw [← hd]; exact B1.out.size)
  rw [hd]
  go_upto_region 5 with (fail)
  clear D3 F3 S3 B31 B3 hw3 hw4 hd hfb hfc R1
  go_wp2_with (go_at_call 74; ((refine (parts_any _ _ _).mono ?_); rintro e wL ⟨rfl, h3, h4, h6⟩; have K5 := Lib.hid h3; have C5 := Lib.hid h4; have B5 := Lib.hid h6; clear h3 h4 h6))
  obtain ⟨E, hE⟩ : ∃ E, E = d + 2 := ⟨_, rfl⟩
  obtain ⟨F, hF⟩ : ∃ F, F = d + 1 := ⟨_, rfl⟩
  obtain ⟨bs, hbs⟩ : ∃ bs, bs = w4.heap.size := ⟨_, rfl⟩
  obtain ⟨bc, hbc⟩ : ∃ bc, bc = w4.heap.size + 1 := ⟨_, rfl⟩
  rw [← hE] at E4 ⊢
  rw [← hF] at F4 ⊢
  rw [← hbc] at C5 ⊢
  rw [← hbs] at K5 C5
  have hsz := S4.out
  have hB5 := B5.out.size
  have hwd := HWD.out
  have hfd := HFB.out
  have hEL := E4.out.lt
  have HSL := Lib.hid (show w.heap.size ≤ d ∧ d < F ∧ F < E ∧ E < bs ∧ E < bc ∧ E < wL.heap.size ∧ fb < d from ⟨hwd, by omega, by omega, by omega, by omega, by omega, hfd⟩)
  have BL := Lib.hid (B4.out.trans (B5.out.mono B4.out.size))
  have DL := Lib.hid (D4.out.below B5.out (by omega))
  have FL := Lib.hid (F4.out.below B5.out (by omega))
  have EL0 := Lib.hid (E4.out.below B5.out (by omega))
  have CL := Lib.hid (show ∀ k, k < 67 → wL.cell? ⟨fb, fo + k, none⟩ = some (.int .i64 ((ds.getD k 0 : Nat) : Int)) from fun k hk => (B5.out.cell (p := ⟨fb, fo + k, none⟩) (by show fb < _; omega)).trans (C4.out k hk))
  have HAG := Lib.hid (show ∀ a, Ag = some a → a.block < w.heap.size from by
    intro a ha
    obtain ⟨b, off, e, hb, _⟩ := SG.out.at_ (by omega)
    rw [ha] at e
    injection e with e
    subst e
    exact hb)
  have hOK : ∀ X, KE wL.heap.size E wL X → Bk X bs 24 #[.slice Ag 2144 cg] ∧ Bk X bc 112 #[.func (.func 98) #[] #[.pointer (some ⟨bs, 0, none⟩)]] := fun X h => ⟨h.bk K5.out K5.out.lt (by omega), h.bk C5.out C5.out.lt (by omega)⟩
  have HOK := Lib.hid hOK
  have NIL := Lib.hid (show LI w wL E N 0 wL from ⟨KE.refl _, BL.out, _, _, EL0.out, Rows.nil_ _ _⟩)
  clear hsz hB5 hwd hfd hEL hE hF hbs hbc hOK
  refine (wpIn_wide (n := 3)).1 ?_
  refine RD.range_rounds (m := 3) (gf := 112) (lb := #[.pointer (some ⟨bc, 0, none⟩)]) (encs := encR) rfl (enters_of Tryz.func112 (by kernel_rfl) rfl)
    (chains_parts 2 (by omega) bc bs (fun k => (sig.drop (32 * k)).take 32) (fun A => ∀ a, A = some a → ∃ a0, Ag = some a0 ∧ a.block = a0.block) (fun X => Bk X bs 24 #[.slice Ag 2144 cg] ∧ Rd X Ag 2144 cg sig) (fun X k ⟨h2, h3⟩ hk => part1_any k hk bs Ag cg sig X h2 h3)) (fun _ _ => rfl)
    (LI w wL E N) (LI.own (by have := HSL.out; omega)) (fun k X h => by
      obtain ⟨h1, h2⟩ := HOK.out X h.ke
      exact ⟨h2, h1, SG.out.below h.bel⟩) NIL.out
    (fun k x X l o o' ⟨h, h'⟩ _ hl ho => ⟨(CK.putObj hl ho).rd h, h'⟩) ?a1 ?assign ?body ?done
  case assign =>
    intro l k x W K hK
    gi_wp2
    exact hK
  case body =>
    rintro l k ⟨Ax, cx⟩ W hI hk ⟨hx, hpr⟩
    obtain ⟨v, vs, hE, hR⟩ := hI.ends
    have HE := Lib.hid hE
    have HR := Lib.hid hR
    have HII := Lib.hid hI
    have BW := Lib.hid hI.bel
    have RX := Lib.hid hx
    have HPR := Lib.hid (show ∀ a, Ax = some a → a.block < w.heap.size from fun a ha => by
      obtain ⟨a0, h1, h2⟩ := hpr a ha
      have := HAG.out a0 h1
      omega)
    have HEL := Lib.hid (show E < wL.heap.size by have := HSL.out; omega)
    have HWE := Lib.hid (show w.heap.size ≤ E by have := HSL.out; omega)
    have HWL := Lib.hid (show w.heap.size ≤ wL.heap.size by have := HSL.out; omega)
    have HSZ := Lib.hid (show wL.heap.size ≤ W.drew.heap.size from hI.ke.size)
    have HNX := Lib.hid (show N.take (k + 1) = N.take k ++ [U k] by rw [take_next (by have := EL.out; omega), EG.out k hk])
    obtain ⟨xk, hxk⟩ : ∃ xk, xk = ds.getD k 0 := ⟨_, rfl⟩
    have UPK := Lib.hid (fun (X : World) (B : Option Addr) (cB : Nat) (h1 : Below w.heap.size w X) (h2 : Rd X B 32 cB ((sig.drop (32 * k)).take 32)) => UP.out X k B cB h1 hk h2)
    have CK1 := Lib.hid (CL.out k hk)
    rw [← hxk] at UPK CK1
    have LK := Lib.hid (show ∀ X, KE wL.heap.size E W.drew X → X.cell? ⟨d, 0, none⟩ = some (.slice As 32 cs) ∧ X.cell? ⟨d, 1, none⟩ = some (.int .u32 (ly : Int)) ∧ X.cell? ⟨d, 2, none⟩ = some (.int .u64 (tr : Int)) ∧ X.cell? ⟨d, 3, none⟩ = some (.int .u32 (qq : Int)) ∧ X.cell? ⟨F, 0, none⟩ = some (.slice (some ⟨fb, fo, none⟩) 67 c1) ∧ X.cell? ⟨fb, fo + k, none⟩ = some (.int .i64 (xk : Int)) from fun X h => by
      have hs := HSL.out
      have h' := (HII.out.ke.trans (KE.bel (Below.refl _ _).drew)).trans h
      obtain ⟨a0, a1, a2, a3⟩ := lf_keep h' DL.out (by omega) (by omega)
      exact ⟨a0, a1, a2, a3, h'.cell (FL.out.cell 0) (by show F < _; omega) (by show F ≠ _; omega), h'.cell CK1.out (by show fb < _; omega) (by show fb ≠ _; omega)⟩)
    have HS0 := Lib.hid (LK.out _ (KE.refl _))
    have e0 : W.drew.cell? ⟨E, 0, none⟩ = some v := by have := HE.out.drew.cell 0; simpa using this
    have T0 : (k : Int) < 67 := by omega
    have T1 : (0 : Int) ≤ (k : Int) := by omega
    clear hE hR hI hx hpr hxk
    gi_wp2_with (fail)
    refine RD.h_begin (fun X => X.cell? ⟨d, 0, none⟩ = some (.slice As 32 cs) ∧ X.cell? ⟨d, 1, none⟩ = some (.int .u32 (ly : Int)) ∧ X.cell? ⟨d, 2, none⟩ = some (.int .u64 (tr : Int)) ∧ X.cell? ⟨d, 3, none⟩ = some (.int .u32 (qq : Int)) ∧ X.cell? ⟨F, 0, none⟩ = some (.slice (some ⟨fb, fo, none⟩) 67 c1) ∧ X.cell? ⟨fb, fo + k, none⟩ = some (.int .i64 (xk : Int))) 12 (by kernel_rfl) ?_ (by kernel_rfl) rfl ?_
    · rintro ⟨_, _, h, _⟩
      cases h
    refine RD.h_take 1 (.agg #[.slice As 32 cs, .int .u32 (ly : Int), .int .u64 (tr : Int), .int .u32 (qq : Int)]) rfl (by kernel_rfl) (by kernel_rfl) (by kernel_rfl) (fun _ _ _ h => h) (by rfl) HS0.out (fun X hX => ?_) ?_
    · obtain ⟨h0, h1, h2, h3, h4, h5⟩ := hX
      go_simp
    simp only [Act.put, List.setIfInBounds_toArray, List.set_cons_zero, List.set_cons_succ]
    refine RD.h_take 2 (.int .i64 (k : Int)) rfl (by kernel_rfl) (by kernel_rfl) (by kernel_rfl) (fun _ _ _ h => h) (by rfl) HS0.out (fun X hX => ?_) ?_
    · obtain ⟨h0, h1, h2, h3, h4, h5⟩ := hX
      go_simp
    simp only [Act.put, List.setIfInBounds_toArray, List.set_cons_zero, List.set_cons_succ]
    refine RD.h_take 3 (.slice (some ⟨fb, fo, none⟩) 67 c1) rfl (by kernel_rfl) (by kernel_rfl) (by kernel_rfl) (fun _ _ _ h => h) (by rfl) HS0.out (fun X hX => ?_) ?_
    · obtain ⟨h0, h1, h2, h3, h4, h5⟩ := hX
      go_simp
    simp only [Act.put, List.setIfInBounds_toArray, List.set_cons_zero, List.set_cons_succ]
    refine RD.h_take 4 (.int .i64 (k : Int)) rfl (by kernel_rfl) (by kernel_rfl) (by kernel_rfl) (fun _ _ _ h => h) (by rfl) HS0.out (fun X hX => ?_) ?_
    · obtain ⟨h0, h1, h2, h3, h4, h5⟩ := hX
      go_simp
    simp only [Act.put, List.setIfInBounds_toArray, List.set_cons_zero, List.set_cons_succ]
    refine RD.h_take 5 (.pointer (some ⟨fb, fo + k, none⟩)) rfl (by kernel_rfl) (by kernel_rfl) (by kernel_rfl) (fun _ _ _ h => h) (by rfl) HS0.out (fun X hX => ?_) ?_
    · obtain ⟨h0, h1, h2, h3, h4, h5⟩ := hX
      go_simp
    simp only [Act.put, List.setIfInBounds_toArray, List.set_cons_zero, List.set_cons_succ]
    refine RD.h_take 6 (.int .i64 (xk : Int)) rfl (by kernel_rfl) (by kernel_rfl) (by kernel_rfl) (fun _ _ _ h => h) (by rfl) HS0.out (fun X hX => ?_) ?_
    · obtain ⟨h0, h1, h2, h3, h4, h5⟩ := hX
      go_simp
    simp only [Act.put, List.setIfInBounds_toArray, List.set_cons_zero, List.set_cons_succ]
    refine RD.h_take 7 (.slice Ax 32 cx) rfl (by kernel_rfl) (by kernel_rfl) (by kernel_rfl) (fun _ _ _ h => h) (by rfl) HS0.out (fun X hX => ?_) ?_
    · obtain ⟨h0, h1, h2, h3, h4, h5⟩ := hX
      go_simp
    simp only [Act.put, List.setIfInBounds_toArray, List.set_cons_zero, List.set_cons_succ]
    refine RD.h_any [0, 8] (by kernel_rfl) (by simp) (RD.two_of ?_ ?_)
    · refine RD.h_run v W.drew rfl (by rfl) (by go_simp) ⟨HS0.out, ?_⟩
      simp only [Act.put, List.setIfInBounds_toArray, List.set_cons_zero, List.set_cons_succ]
      refine RD.h_any [8] (by kernel_rfl) (by simp) (RD.one_of ?_)
      refine RD.h_call 61 #[(.agg #[.slice As 32 cs, .int .u32 (ly : Int), .int .u64 (tr : Int), .int .u32 (qq : Int)]), .int .i64 (k : Int), .int .i64 (xk : Int), .int .i64 15, .slice Ax 32 cx] rfl (by rfl) (by go_simp) ((UPK.out W.drew Ax cx BW.out.drew RX.out.drew).mono ?_)
      rintro e X1 ⟨A5, c5, rfl, r5, n5, b5⟩
      have R5 := Lib.hid r5
      have N5 := Lib.hid n5
      have B5 := Lib.hid b5
      have E1 := HE.out.drew.below b5 HE.out.drew.lt
      have e1 := E1.cell 0
      simp at e1
      have HS1 := Lib.hid (LK.out _ (KE.bel b5))
      clear r5 n5 b5
      refine ⟨_, rfl, HS1.out, ?_⟩
      simp only [Act.put, List.setIfInBounds_toArray, List.set_cons_zero, List.set_cons_succ]
      refine RD.h_any [9] (by kernel_rfl) (by simp) (RD.one_of ?_)
      have HS2 := Lib.hid (LK.out _ ((KE.bel B5.out).trans (KE.bel ((Below.refl _ _).alloc (Nat.le_refl _) (.cells #[.slice A5 32 c5] 24)))))
      refine RD.h_run (.slice (some ⟨X1.heap.size, 0, none⟩) 1 1) (X1.alloc (.cells #[.slice A5 32 c5] 24)) rfl (by rfl) (by go_simp) ⟨HS2.out, ?_⟩
      simp only [Act.put, List.setIfInBounds_toArray, List.set_cons_zero, List.set_cons_succ]
      refine RD.h_any [10] (by kernel_rfl) (by simp) (RD.one_of ?_)
      refine RD.h_op rfl (step_append_lies _ (by rfl) (.tmp 42) (.tmp 51) 61 (by rfl) wL.heap.size 24 i0 _ 1 24 Tryz.underlying61 HI.out hz0 hz1 hz2 rfl (by omega) v k vs (by rfl) ((HR.out.drew.below B5.out).alloc _).own ⟨X1.heap.size, 0, none⟩ 1 1 [.slice A5 32 c5] (by rfl) (by rfl) (World.news_of_block (heap_alloc_new X1 _)) (by simp [Value.oneCell']) (by omega) (by simp only [maxLen]; omega) (by omega) (by have q1 := B5.out.size; have q2 := HSZ.out; simp only [World.size_alloc]; omega) (X1.heap.size + 1) (by simp) ?_)
      intro gg cap X3 o3 g3 a3 l3
      have E3 : Bk X3 E 61 #[v] := ((HE.out.drew.below B5.out HE.out.drew.lt).alloc _).only g3 (fun e => by have := (HR.out.own.lt E e.symm).1; have := HEL.out; omega)
      have e3 := E3.cell 0
      have f3 := E3.frozen 0
      simp at e3
      have HS3 := Lib.hid (LK.out _ (((KE.bel B5.out).trans (KE.bel ((Below.refl _ _).alloc (Nat.le_refl _) (.cells #[.slice A5 32 c5] 24)))).trans (KE.grown g3 fun r e => (HR.out.own.lt r e).1)))
      have HS4 := Lib.hid (LK.out _ ((((KE.bel B5.out).trans (KE.bel ((Below.refl _ _).alloc (Nat.le_refl _) (.cells #[.slice A5 32 c5] 24)))).trans (KE.grown g3 fun r e => (HR.out.own.lt r e).1)).trans (KE.set X3 0 (.slice (some ⟨gg, 0, none⟩) (k + 1) cap))))
      have HX := Lib.hid (LI.step HWE.out HEL.out HII.out HE.out HR.out B5.out R5.out HNX.out (fun a ha e => by have h2 := HR.out.own.lt a.block e; have h4 := HWL.out; rcases N5.out a ha with h3 | h3 <;> first | (have h5 := HPR.out a h3; omega) | (simp at h3; omega)) o3 g3 a3)
      clear o3 g3 a3 l3 E3
      refine ⟨HS3.out, ?_⟩
      simp only [Act.put, List.setIfInBounds_toArray, List.set_cons_zero, List.set_cons_succ]
      refine RD.h_any [11] (by kernel_rfl) (by simp) (RD.one_of ?_)
      refine RD.h_skip (X3.setCell ⟨E, 0, none⟩ (.slice (some ⟨gg, 0, none⟩) (k + 1) cap)) rfl (by rfl) (by go_simp) ⟨HS4.out, ?_⟩
      simp only [Act.put, List.setIfInBounds_toArray, List.set_cons_zero, List.set_cons_succ]
      exact RD.h_done (by kernel_rfl) ⟨rfl, HX.out⟩
    · refine RD.h_call 61 #[(.agg #[.slice As 32 cs, .int .u32 (ly : Int), .int .u64 (tr : Int), .int .u32 (qq : Int)]), .int .i64 (k : Int), .int .i64 (xk : Int), .int .i64 15, .slice Ax 32 cx] rfl (by rfl) (by go_simp) ((UPK.out W.drew Ax cx BW.out.drew RX.out.drew).mono ?_)
      rintro e X1 ⟨A5, c5, rfl, r5, n5, b5⟩
      have R5 := Lib.hid r5
      have N5 := Lib.hid n5
      have B5 := Lib.hid b5
      have E1 := HE.out.drew.below b5 HE.out.drew.lt
      have e1 := E1.cell 0
      simp at e1
      have HS1 := Lib.hid (LK.out _ (KE.bel b5))
      clear r5 n5 b5
      refine ⟨_, rfl, HS1.out, ?_⟩
      simp only [Act.put, List.setIfInBounds_toArray, List.set_cons_zero, List.set_cons_succ]
      refine RD.h_any [0, 9] (by kernel_rfl) (by simp) (RD.two_of ?_ ?_)
      · refine RD.h_run v X1 rfl (by rfl) (by go_simp) ⟨HS1.out, ?_⟩
        simp only [Act.put, List.setIfInBounds_toArray, List.set_cons_zero, List.set_cons_succ]
        refine RD.h_any [9] (by kernel_rfl) (by simp) (RD.one_of ?_)
        have HS2 := Lib.hid (LK.out _ ((KE.bel B5.out).trans (KE.bel ((Below.refl _ _).alloc (Nat.le_refl _) (.cells #[.slice A5 32 c5] 24)))))
        refine RD.h_run (.slice (some ⟨X1.heap.size, 0, none⟩) 1 1) (X1.alloc (.cells #[.slice A5 32 c5] 24)) rfl (by rfl) (by go_simp) ⟨HS2.out, ?_⟩
        simp only [Act.put, List.setIfInBounds_toArray, List.set_cons_zero, List.set_cons_succ]
        refine RD.h_any [10] (by kernel_rfl) (by simp) (RD.one_of ?_)
        refine RD.h_op rfl (step_append_lies _ (by rfl) (.tmp 42) (.tmp 51) 61 (by rfl) wL.heap.size 24 i0 _ 1 24 Tryz.underlying61 HI.out hz0 hz1 hz2 rfl (by omega) v k vs (by rfl) ((HR.out.drew.below B5.out).alloc _).own ⟨X1.heap.size, 0, none⟩ 1 1 [.slice A5 32 c5] (by rfl) (by rfl) (World.news_of_block (heap_alloc_new X1 _)) (by simp [Value.oneCell']) (by omega) (by simp only [maxLen]; omega) (by omega) (by have q1 := B5.out.size; have q2 := HSZ.out; simp only [World.size_alloc]; omega) (X1.heap.size + 1) (by simp) ?_)
        intro gg cap X3 o3 g3 a3 l3
        have E3 : Bk X3 E 61 #[v] := ((HE.out.drew.below B5.out HE.out.drew.lt).alloc _).only g3 (fun e => by have := (HR.out.own.lt E e.symm).1; have := HEL.out; omega)
        have e3 := E3.cell 0
        have f3 := E3.frozen 0
        simp at e3
        have HS3 := Lib.hid (LK.out _ (((KE.bel B5.out).trans (KE.bel ((Below.refl _ _).alloc (Nat.le_refl _) (.cells #[.slice A5 32 c5] 24)))).trans (KE.grown g3 fun r e => (HR.out.own.lt r e).1)))
        have HS4 := Lib.hid (LK.out _ ((((KE.bel B5.out).trans (KE.bel ((Below.refl _ _).alloc (Nat.le_refl _) (.cells #[.slice A5 32 c5] 24)))).trans (KE.grown g3 fun r e => (HR.out.own.lt r e).1)).trans (KE.set X3 0 (.slice (some ⟨gg, 0, none⟩) (k + 1) cap))))
        have HX := Lib.hid (LI.step HWE.out HEL.out HII.out HE.out HR.out B5.out R5.out HNX.out (fun a ha e => by have h2 := HR.out.own.lt a.block e; have h4 := HWL.out; rcases N5.out a ha with h3 | h3 <;> first | (have h5 := HPR.out a h3; omega) | (simp at h3; omega)) o3 g3 a3)
        clear o3 g3 a3 l3 E3
        refine ⟨HS3.out, ?_⟩
        simp only [Act.put, List.setIfInBounds_toArray, List.set_cons_zero, List.set_cons_succ]
        refine RD.h_any [11] (by kernel_rfl) (by simp) (RD.one_of ?_)
        refine RD.h_skip (X3.setCell ⟨E, 0, none⟩ (.slice (some ⟨gg, 0, none⟩) (k + 1) cap)) rfl (by rfl) (by go_simp) ⟨HS4.out, ?_⟩
        simp only [Act.put, List.setIfInBounds_toArray, List.set_cons_zero, List.set_cons_succ]
        exact RD.h_done (by kernel_rfl) ⟨rfl, HX.out⟩
      · have HS2 := Lib.hid (LK.out _ ((KE.bel B5.out).trans (KE.bel ((Below.refl _ _).alloc (Nat.le_refl _) (.cells #[.slice A5 32 c5] 24)))))
        refine RD.h_run (.slice (some ⟨X1.heap.size, 0, none⟩) 1 1) (X1.alloc (.cells #[.slice A5 32 c5] 24)) rfl (by rfl) (by go_simp) ⟨HS2.out, ?_⟩
        simp only [Act.put, List.setIfInBounds_toArray, List.set_cons_zero, List.set_cons_succ]
        have e2 : (X1.alloc (.cells #[.slice A5 32 c5] 24)).cell? ⟨E, 0, none⟩ = some v := ((E1.alloc _).cell 0).trans (by simp)
        refine RD.h_any [0] (by kernel_rfl) (by simp) (RD.one_of ?_)
        refine RD.h_run v (X1.alloc (.cells #[.slice A5 32 c5] 24)) rfl (by rfl) (by go_simp) ⟨HS2.out, ?_⟩
        simp only [Act.put, List.setIfInBounds_toArray, List.set_cons_zero, List.set_cons_succ]
        refine RD.h_any [10] (by kernel_rfl) (by simp) (RD.one_of ?_)
        refine RD.h_op rfl (step_append_lies _ (by rfl) (.tmp 42) (.tmp 51) 61 (by rfl) wL.heap.size 24 i0 _ 1 24 Tryz.underlying61 HI.out hz0 hz1 hz2 rfl (by omega) v k vs (by rfl) ((HR.out.drew.below B5.out).alloc _).own ⟨X1.heap.size, 0, none⟩ 1 1 [.slice A5 32 c5] (by rfl) (by rfl) (World.news_of_block (heap_alloc_new X1 _)) (by simp [Value.oneCell']) (by omega) (by simp only [maxLen]; omega) (by omega) (by have q1 := B5.out.size; have q2 := HSZ.out; simp only [World.size_alloc]; omega) (X1.heap.size + 1) (by simp) ?_)
        intro gg cap X3 o3 g3 a3 l3
        have E3 : Bk X3 E 61 #[v] := ((HE.out.drew.below B5.out HE.out.drew.lt).alloc _).only g3 (fun e => by have := (HR.out.own.lt E e.symm).1; have := HEL.out; omega)
        have e3 := E3.cell 0
        have f3 := E3.frozen 0
        simp at e3
        have HS3 := Lib.hid (LK.out _ (((KE.bel B5.out).trans (KE.bel ((Below.refl _ _).alloc (Nat.le_refl _) (.cells #[.slice A5 32 c5] 24)))).trans (KE.grown g3 fun r e => (HR.out.own.lt r e).1)))
        have HS4 := Lib.hid (LK.out _ ((((KE.bel B5.out).trans (KE.bel ((Below.refl _ _).alloc (Nat.le_refl _) (.cells #[.slice A5 32 c5] 24)))).trans (KE.grown g3 fun r e => (HR.out.own.lt r e).1)).trans (KE.set X3 0 (.slice (some ⟨gg, 0, none⟩) (k + 1) cap))))
        have HX := Lib.hid (LI.step HWE.out HEL.out HII.out HE.out HR.out B5.out R5.out HNX.out (fun a ha e => by have h2 := HR.out.own.lt a.block e; have h4 := HWL.out; rcases N5.out a ha with h3 | h3 <;> first | (have h5 := HPR.out a h3; omega) | (simp at h3; omega)) o3 g3 a3)
        clear o3 g3 a3 l3 E3
        refine ⟨HS3.out, ?_⟩
        simp only [Act.put, List.setIfInBounds_toArray, List.set_cons_zero, List.set_cons_succ]
        refine RD.h_any [11] (by kernel_rfl) (by simp) (RD.one_of ?_)
        refine RD.h_skip (X3.setCell ⟨E, 0, none⟩ (.slice (some ⟨gg, 0, none⟩) (k + 1) cap)) rfl (by rfl) (by go_simp) ⟨HS4.out, ?_⟩
        simp only [Act.put, List.setIfInBounds_toArray, List.set_cons_zero, List.set_cons_succ]
        exact RD.h_done (by kernel_rfl) ⟨rfl, HX.out⟩
  case done =>
    intro D' W hD' hI hK
    obtain ⟨v, vs, hE, hR⟩ := hI.ends
    rw [List.take_of_length_le (by have := EL.out; omega)] at hR
    obtain ⟨Av, cv, rfl⟩ := hR.form
    have HRD := Lib.hid hR.read
    have BW := Lib.hid hI.bel
    have HKD := Lib.hid hK
    obtain ⟨l0, l1, l2, l3⟩ := lf_keep hI.ke DL.out (by have := HSL.out; omega) (by have := HSL.out; omega)
    have e0 : W.cell? ⟨E, 0, none⟩ = some (.slice Av 67 cv) := by have := hE.cell 0; simpa using this
    clear hE hR hI hK
    go_wp2_with (go_at_call 75; ((with_reducible refine (SUM.out _ Av cv BW.out HRD.out).mono ?_); rintro e w6 ⟨A6, n6, c6, rfl, q6, b6⟩; have O6 := Lib.hid q6; have B6 := Lib.hid b6; clear q6 b6))
    have MK := below_at B6.out HKD.out
    refine ⟨by simp, .inl ⟨_, _, rfl, run_takeDeferred MK, ?_⟩⟩
    exact ⟨_, results_tmp rfl _ _ _, New.mk ((CK.putObj MK rfl).own (own_base O6.out BW.out.size)) ((BW.out.trans (B6.out.mono BW.out.size)).trans (belowK_b (w := wL) (by have := HSL.out; omega) w6 D' _ _ hD' MK rfl rfl))⟩
theorem all_land (At : Option Addr) (ct : Nat) (text : List UInt8) (X : World) (hk : GK X) (ht : Rd X At 32 ct text) : Calls Tryz.prog 59 #[.slice At 32 ct, .int .i64 4] X (S7.GivesI X.heap.size X (S7.allL 4 text)) := by
  have h := S7.allW_any At 32 ct text 4 X hk.s7 ht
  have e : S7.allW 4 text = S7.allL 4 text := by
    unfold S7.allW
    rw [ht.len, if_pos (by decide)]
    rfl
  rw [e] at h
  exact h
theorem stands_may (Ae : Option Addr) (ce : Nat) (sd : List UInt8) (ly tr qq : Nat) (At : Option Addr) (ct : Nat) (text : List UInt8) (Ag : Option Addr) (cg : Nat) (sig : List UInt8) (w : World) (hk : GK w) (he : Rd w Ae 32 ce sd) (ht : Rd w At 32 ct text) (hg : Rd w Ag 2144 cg sig) (h1 : ly < 4294967296) (h2 : tr < 18446744073709551616) (h3 : qq < 4294967296) :
    Calls Tryz.prog 46 #[.slice Ae 32 ce, .int .u32 (ly : Int), .int .u64 (tr : Int), .int .u32 (qq : Int), .slice At 32 ct, .slice Ag 2144 cg] w (New w.heap.size w (standL sd (adQ ly tr qq) text sig)) :=
  stands_core Ae ce ly tr qq At ct Ag cg sig w (fun k => upL sd (adQ ly tr qq) k ((S7.allL 4 text).getD k 0) (15 - (S7.allL 4 text).getD k 0) ((sig.drop (32 * k)).take 32)) (S7.allL 4 text) (standRows sd (adQ ly tr qq) (S7.allL 4 text) sig) _ hg
    (fun X hX => all_land At ct text X (hk.bel hX) (ht.below hX))
    (fun X k B cB hX hk' hz => up_any Ae ce ly tr qq k ((S7.allL 4 text).getD k 0) 15 (by omega) (by omega) sd B cB _ X (hk.bel hX) (he.below hX) hz (all_le k) h1 h2 h3)
    (fun X B cB hX hz => sumOf_any Ae ce ly tr qq sd B 67 cB _ X (hk.bel hX) (he.below hX) hz (stand_32 _ _ _ _ hg.len) (by omega) (by omega) h1 h2 h3)
    (all_67 text ht.len) (fun k h => by simp [standRows, h]) (by simp [standRows])
set_option maxHeartbeats 1000000 in
theorem stands_not (Ae : Option Addr) (ne ce : Nat) (ly tr qq : Nat) (At : Option Addr) (nt ct : Nat) (Ag : Option Addr) (ng cg : Nat) (w : World) (h : ¬ (ne = 32 ∧ nt = 32 ∧ ng = 2144)) :
    Calls Tryz.prog 46 #[.slice Ae ne ce, .int .u32 (ly : Int), .int .u64 (tr : Int), .int .u32 (qq : Int), .slice At nt ct, .slice Ag ng cg] w (New w.heap.size w []) := by
  by_cases c1 : ne = 32
  · have t1 : ((ne : Int) == 32) = true := by simp; omega
    by_cases c2 : nt = 32
    · have t2 : ((nt : Int) == 32) = true := by simp; omega
      have t3 : ((ng : Int) == 2144) = false := by simp; omega
      subst c1 c2
      clear h
      go_enter Tryz.func46, Tryz.ntmps46
      go_wp2
      go_ret
      exact New.mk (World.ownsRow_nil _ _ _ _) (Below.refl _ _)
    · have t2 : ((nt : Int) == 32) = false := by simp; omega
      subst c1
      clear h
      go_enter Tryz.func46, Tryz.ntmps46
      go_wp2
      go_ret
      exact New.mk (World.ownsRow_nil _ _ _ _) (Below.refl _ _)
  · have t1 : ((ne : Int) == 32) = false := by simp; omega
    clear h
    go_enter Tryz.func46, Tryz.ntmps46
    go_wp2
    go_ret
    exact New.mk (World.ownsRow_nil _ _ _ _) (Below.refl _ _)
theorem standW_any (Ae : Option Addr) (ne ce : Nat) (sd : List UInt8) (ly tr qq : Nat) (At : Option Addr) (nt ct : Nat) (text : List UInt8) (Ag : Option Addr) (ng cg : Nat) (sig : List UInt8) (w : World) (hk : GK w) (he : Rd w Ae ne ce sd) (ht : Rd w At nt ct text) (hg : Rd w Ag ng cg sig) (h1 : ly < 4294967296) (h2 : tr < 18446744073709551616) (h3 : qq < 4294967296) :
    Calls Tryz.prog 46 #[.slice Ae ne ce, .int .u32 (ly : Int), .int .u64 (tr : Int), .int .u32 (qq : Int), .slice At nt ct, .slice Ag ng cg] w (New w.heap.size w (standW sd ly tr qq text sig)) := by
  unfold standW
  rw [he.len, ht.len, hg.len]
  by_cases h : ne = 32 ∧ nt = 32 ∧ ng = 2144
  · rw [if_pos h]
    obtain ⟨rfl, rfl, rfl⟩ := h
    exact stands_may Ae ce sd ly tr qq At ct text Ag cg sig w hk he ht hg h1 h2 h3
  · rw [if_neg h]
    exact stands_not Ae ne ce ly tr qq At nt ct Ag ng cg w h
end Go.Proofs.YtkpfppiedadmbaaGreatDoor.S15
