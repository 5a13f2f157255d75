/-
  Texts put together: WpKA. No statement is proved here.
-/
import Derived.Test.YtkpfppiedadmbaaGreatDoorWn27
import Derived.Test.YtkpfppiedadmbaaGreatDoorWn15

/-
  The landed wplus.Leaf. No statement is proved here.
-/
namespace Go.Proofs.YtkpfppiedadmbaaGreatDoor.S15
set_option linter.unusedSimpArgs false
set_option linter.unusedVariables false
set_option maxRecDepth 1024
open Go.RowKit Go.Shelf RD
attribute [local go_sem] Oper.semAt_some

set_option maxHeartbeats 4000000 in
theorem leaf_core (As : Option Addr) (cs : Nat) (Al : Option Addr) (cl : Nat) (Ae : Option Addr) (ce : Nat) (ly tr qq : Nat) (w : World) (S U : Nat → List UInt8) (N : List (List UInt8)) (key zz : List UInt8)
    (my : ∀ X, Calls Tryz.prog 52 #[.agg #[.slice As 32 cs, .slice Al 32 cl, .slice Ae 32 ce]] X fun e w' => e = .returned (.bool true) ∧ Below X.heap.size X w')
    (sec : ∀ X, Below w.heap.size w X → Calls Tryz.prog 60 #[.agg (lfS Ae ce ly tr qq), .slice As 32 cs] X fun e w' => ∃ bk bc Ak ck, e = .returned (.func (.func 112) #[] #[.pointer (some ⟨bc, 0, none⟩)]) ∧ X.heap.size ≤ bk ∧ X.heap.size ≤ bc ∧ Bk w' bk 24 #[.slice Ak 32 ck] ∧ Bk w' bc 112 #[.func (.func 88) #[] #[.pointer (some ⟨bk, 0, none⟩)]] ∧ w'.ownsRow X.heap.size 5 1 (.slice Ak 32 ck) 32 (bv key) ∧ Below X.heap.size X w')
    (sof : ∀ (X : World) (k bk : Nat) (Ak : Option Addr) (ck : Nat), Below w.heap.size w X → k < 67 → Bk X bk 24 #[.slice Ak 32 ck] → Rd X Ak 32 ck key → Calls Tryz.prog 88 #[.int .i64 (k : Int), .pointer (some ⟨bk, 0, none⟩)] X (G32 (S k) X))
    (up : ∀ (X : World) (k : Nat) (B : Option Addr) (cB : Nat), Below w.heap.size w X → k < 67 → Rd X B 32 cB (S k) → Calls Tryz.prog 61 #[.agg (lfS Ae ce ly tr qq), .int .i64 (k : Int), .int .i64 0, .int .i64 15, .slice B 32 cB] X fun e w' => ∃ A c, e = .returned (.slice A 32 c) ∧ Rd w' A 32 c (U k) ∧ (∀ a, A = some a → X.heap.size ≤ a.block) ∧ Below X.heap.size X w')
    (sum : ∀ (X : World) (B : Option Addr) (cB : Nat), Below w.heap.size w X → RdBs X B 67 cB N → Calls Tryz.prog 75 #[.agg (lfS Ae ce ly tr qq), .slice B 67 cB] X (New X.heap.size X zz))
    (eg : ∀ k, k < 67 → N[k]?.getD [] = U k) (el : N.length = 67) :
    Calls Tryz.prog 54 #[.agg (mkA As 32 cs Al 32 cl Ae 32 ce), .int .u32 (ly : Int), .int .u64 (tr : Int), .int .u32 (qq : Int)] w (New w.heap.size w zz) := by
  have MY := Lib.hid my
  have SEC := Lib.hid sec
  have SOF := Lib.hid sof
  have UP := Lib.hid up
  have SUM := Lib.hid sum
  have EG := Lib.hid eg
  have EL := Lib.hid el
  clear my sec sof up sum eg el
  obtain ⟨i0, hi, hz0, hz1, hz2⟩ := info_parts Tryz.infoRows
  have HI := Lib.hid hi
  clear hi
  have hmix : Tryz.prog.follows .mixedOrders = true := by kernel_rfl
  obtain ⟨g, hg⟩ : ∃ g, g = w.heap.size := ⟨_, rfl⟩
  have HG := Lib.hid hg
  obtain ⟨w0, hw0⟩ : ∃ w0, w.alloc (.cells (mkA As 32 cs Al 32 cl Ae 32 ce) 26) = w0 := ⟨_, rfl⟩
  have M0 := Lib.hid (show Bk w0 g 26 (mkA As 32 cs Al 32 cl Ae 32 ce) by rw [← hw0, hg]; exact Bk.new _ _ _)
  have B0 := Lib.hid (show Below w.heap.size w w0 by rw [← hw0]; exact (Below.refl _ _).alloc (Nat.le_refl _) _)
  refine (callsIn_wide (n := 3)).1 ?_
  refine callsIn_of_wp_marks Tryz.func54 rfl trivial ?_ rfl
  simp only [Tryz.ntmps54, List.size_toArray, List.length_cons, List.length_nil, Nat.reduceAdd, Nat.reduceSub, Array.replicate_succ, Array.replicate_zero, List.push_toArray, List.append_toArray, List.nil_append, List.cons_append]
  refine wpIn_wide.2 ?_
  go_upto_region 1 with (fail)
  rw [← hg]
  have k0 : w0.cell? ⟨g, 0, none⟩ = some (.slice As 32 cs) := M0.out.cell 0
  have k1 : w0.cell? ⟨g, 1, none⟩ = some (.slice Al 32 cl) := M0.out.cell 1
  have k2 : w0.cell? ⟨g, 2, none⟩ = some (.slice Ae 32 ce) := M0.out.cell 2
  clear hw0 hg
  go_upto_region 3 with (go_at_call 52; ((with_reducible refine (MY.out _).mono ?_); rintro e w1 ⟨rfl, b1⟩; have B1 := Lib.hid (B0.out.trans (b1.mono B0.out.size)); have M1 := Lib.hid (M0.out.below b1 M0.out.lt); clear b1))
  have j0 : w1.cell? ⟨g, 0, none⟩ = some (.slice As 32 cs) := M1.out.cell 0
  have j2 : w1.cell? ⟨g, 2, none⟩ = some (.slice Ae 32 ce) := M1.out.cell 2
  clear k0 k1 k2
  go_upto_region 4 with (fail)
  obtain ⟨d, hd⟩ : ∃ d, w1.heap.size = d := ⟨_, rfl⟩
  obtain ⟨w2, hw2⟩ : ∃ w2, w1.alloc (.cells (lfS Ae ce ly tr qq) 85) = w2 := ⟨_, rfl⟩
  obtain ⟨w3, hw3⟩ : ∃ w3, w2.alloc (.cells #[.slice none 0 0] 61) = w3 := ⟨_, rfl⟩
  have D2 : Bk w2 d 85 (lfS Ae ce ly tr qq) := by rw [← hw2]; exact Bk.newAt _ _ _ _ hd
  have S2 : w2.heap.size = d + 1 := by rw [← hw2]; simp [hd]
  have B2 : Below w.heap.size w w2 := by rw [← hw2]; exact B1.out.alloc B1.out.size _
  have M2 : Bk w2 g 26 (mkA As 32 cs Al 32 cl Ae 32 ce) := by rw [← hw2]; exact M1.out.alloc _
  have M3 := Lib.hid (show Bk w3 g 26 (mkA As 32 cs Al 32 cl Ae 32 ce) by rw [← hw3]; exact M2.alloc _)
  have D3 := Lib.hid (show Bk w3 d 85 (lfS Ae ce ly tr qq) by rw [← hw3]; exact D2.alloc _)
  have E3 := Lib.hid (show Bk w3 (d + 1) 61 #[.slice none 0 0] by rw [← hw3]; exact Bk.newAt _ _ _ _ S2)
  have S3 := Lib.hid (show w3.heap.size = d + 2 by rw [← hw3]; simp [S2])
  have B3 := Lib.hid (show Below w.heap.size w w3 by rw [← hw3]; exact B2.alloc B2.size _)
  have HWD := Lib.hid (show w.heap.size ≤ d by rw [← hd]; exact B1.out.size)
  rw [hd]
  clear j0 j2 M2
  go_upto_region 5 with (fail)
  clear D2 S2 B2 hw2 hw3 hd
  obtain ⟨l0, l1, l2, l3⟩ := lfS_cells D3.out
  have j0 : w3.cell? ⟨g, 0, none⟩ = some (.slice As 32 cs) := M3.out.cell 0
  go_wp2_with (go_at_call 60; ((with_reducible refine (SEC.out _ B3.out).mono ?_); rintro e wL ⟨bk, bc, Ak, ck, rfl, h1, h2, h3, h4, h5, h6⟩; have HBK := Lib.hid (And.intro h1 h2); have K4 := Lib.hid h3; have C4 := Lib.hid h4; have O4 := Lib.hid h5; have B4 := Lib.hid h6; clear h1 h2 h3 h4 h5 h6))
  clear l0 l1 l2 l3 j0
  obtain ⟨E, hE⟩ : ∃ E, E = d + 1 := ⟨_, rfl⟩
  rw [← hE] at E3 ⊢
  have hsz := S3.out
  have hsk := HBK.out
  have hB4 := B4.out.size
  have hwd := HWD.out
  have HSL := Lib.hid (show w.heap.size ≤ d ∧ d < E ∧ E < bk ∧ E < bc ∧ E < wL.heap.size from ⟨hwd, by omega, by omega, by omega, by omega⟩)
  have BL := Lib.hid (B3.out.trans (B4.out.mono B3.out.size))
  have DL := Lib.hid (D3.out.below B4.out (by omega))
  have EL0 := Lib.hid (E3.out.below B4.out (by omega))
  have hOK : ∀ X, KE wL.heap.size E wL X → Bk X bk 24 #[.slice Ak 32 ck] ∧ Bk X bc 112 #[.func (.func 88) #[] #[.pointer (some ⟨bk, 0, none⟩)]] ∧ Rd X Ak 32 ck key := fun X h => ⟨h.bk K4.out K4.out.lt (by omega), h.bk C4.out C4.out.lt (by omega), h.rd (Rd.own O4.out) fun a ha => by
    have h5 := O4.out
    rw [ha] at h5
    have := h5.lt a.block rfl
    omega⟩
  have HOK := Lib.hid hOK
  have NIL := Lib.hid (show LI w wL E N 0 wL from ⟨KE.refl _, BL.out, _, _, EL0.out, Rows.nil_ _ _⟩)
  clear hsz hsk hB4 hwd hE hOK
  refine (wpIn_wide (n := 3)).1 ?_
  refine RD.range_rounds (m := 3) (gf := 112) (lb := #[.pointer (some ⟨bc, 0, none⟩)]) (encs := encR) rfl (enters_of Tryz.func112 (by kernel_rfl) rfl)
    (chains_secrets 2 (by omega) bc bk S (fun _ => True) (fun X => Below w.heap.size w X ∧ Bk X bk 24 #[.slice Ak 32 ck] ∧ Rd X Ak 32 ck key) (fun X k ⟨h1, h2, h3⟩ hk => (SOF.out X k bk Ak ck h1 hk h2 h3).mono fun e X' ⟨A, c, he, hr, hb⟩ => ⟨A, c, he, ⟨hr, trivial⟩, hb⟩)) (fun _ _ => rfl)
    (LI w wL E N) (LI.own (by have := HSL.out; omega)) (fun k X h => by
      obtain ⟨h1, h2, h3⟩ := HOK.out X h.ke
      exact ⟨h2, h.bel, h1, h3⟩) NIL.out
    (fun k x X l o o' ⟨h, h'⟩ _ hl ho => ⟨(CK.putObj hl ho).rd h, h'⟩) ?a1 ?assign ?body ?done
  case assign =>
    intro l k x W K hK
    gi_wp2
    exact hK
  case body =>
    rintro l k ⟨Ax, cx⟩ W hI hk ⟨hx, _⟩
    obtain ⟨v, vs, hE, hR⟩ := hI.ends
    have HE := Lib.hid hE
    have HR := Lib.hid hR
    have HII := Lib.hid hI
    have BW := Lib.hid hI.bel
    have RX := Lib.hid hx
    have HEL := Lib.hid (show E < wL.heap.size by have := HSL.out; omega)
    have HWE := Lib.hid (show w.heap.size ≤ E by have := HSL.out; omega)
    have HSZ := Lib.hid (show wL.heap.size ≤ W.drew.heap.size from hI.ke.size)
    have HNX := Lib.hid (show N.take (k + 1) = N.take k ++ [U k] by rw [take_next (by have := EL.out; omega), EG.out k hk])
    have LK := Lib.hid (show ∀ X, KE wL.heap.size E W.drew X → X.cell? ⟨d, 0, none⟩ = some (.slice Ae 32 ce) ∧ X.cell? ⟨d, 1, none⟩ = some (.int .u32 (ly : Int)) ∧ X.cell? ⟨d, 2, none⟩ = some (.int .u64 (tr : Int)) ∧ X.cell? ⟨d, 3, none⟩ = some (.int .u32 (qq : Int)) from fun X h => lf_keep ((HII.out.ke.trans (KE.bel (Below.refl _ _).drew)).trans h) DL.out (by have := HSL.out; omega) (by have := HSL.out; omega))
    have HS0 := Lib.hid (LK.out _ (KE.refl _))
    have e0 : W.drew.cell? ⟨E, 0, none⟩ = some v := by have := HE.out.drew.cell 0; simpa using this
    clear hE hR hI hx
    gi_wp2_with (fail)
    refine RD.h_begin (fun X => X.cell? ⟨d, 0, none⟩ = some (.slice Ae 32 ce) ∧ X.cell? ⟨d, 1, none⟩ = some (.int .u32 (ly : Int)) ∧ X.cell? ⟨d, 2, none⟩ = some (.int .u64 (tr : Int)) ∧ X.cell? ⟨d, 3, none⟩ = some (.int .u32 (qq : Int))) 8 (by kernel_rfl) ?_ (by kernel_rfl) rfl ?_
    · rintro ⟨_, _, h, _⟩
      cases h
    refine RD.h_take 1 (.agg #[.slice Ae 32 ce, .int .u32 (ly : Int), .int .u64 (tr : Int), .int .u32 (qq : Int)]) rfl (by kernel_rfl) (by kernel_rfl) (by kernel_rfl) (fun _ _ _ h => h) (by rfl) HS0.out (fun X hX => ?_) ?_
    · obtain ⟨h0, h1, h2, h3⟩ := hX
      go_simp
    simp only [Act.put, List.setIfInBounds_toArray, List.set_cons_zero, List.set_cons_succ]
    refine RD.h_take 2 (.int .i64 (k : Int)) rfl (by kernel_rfl) (by kernel_rfl) (by kernel_rfl) (fun _ _ _ h => h) (by rfl) HS0.out (fun X hX => ?_) ?_
    · obtain ⟨h0, h1, h2, h3⟩ := hX
      go_simp
    simp only [Act.put, List.setIfInBounds_toArray, List.set_cons_zero, List.set_cons_succ]
    refine RD.h_take 3 (.slice Ax 32 cx) rfl (by kernel_rfl) (by kernel_rfl) (by kernel_rfl) (fun _ _ _ h => h) (by rfl) HS0.out (fun X hX => ?_) ?_
    · obtain ⟨h0, h1, h2, h3⟩ := hX
      go_simp
    simp only [Act.put, List.setIfInBounds_toArray, List.set_cons_zero, List.set_cons_succ]
    refine RD.h_any [0, 4] (by kernel_rfl) (by simp) (RD.two_of ?_ ?_)
    · refine RD.h_run v W.drew rfl (by rfl) (by go_simp) ⟨HS0.out, ?_⟩
      simp only [Act.put, List.setIfInBounds_toArray, List.set_cons_zero, List.set_cons_succ]
      refine RD.h_any [4] (by kernel_rfl) (by simp) (RD.one_of ?_)
      refine RD.h_call 61 #[(.agg #[.slice Ae 32 ce, .int .u32 (ly : Int), .int .u64 (tr : Int), .int .u32 (qq : Int)]), .int .i64 (k : Int), .int .i64 0, .int .i64 15, .slice Ax 32 cx] rfl (by rfl) (by go_simp) ((UP.out W.drew k Ax cx BW.out.drew hk RX.out.drew).mono ?_)
      rintro e X1 ⟨A5, c5, rfl, r5, n5, b5⟩
      have R5 := Lib.hid r5
      have N5 := Lib.hid n5
      have B5 := Lib.hid b5
      have E1 := HE.out.drew.below b5 HE.out.drew.lt
      have e1 := E1.cell 0
      simp at e1
      have HS1 := Lib.hid (LK.out _ (KE.bel b5))
      clear r5 n5 b5
      refine ⟨_, rfl, HS1.out, ?_⟩
      simp only [Act.put, List.setIfInBounds_toArray, List.set_cons_zero, List.set_cons_succ]
      refine RD.h_any [5] (by kernel_rfl) (by simp) (RD.one_of ?_)
      have HS2 := Lib.hid (LK.out _ ((KE.bel B5.out).trans (KE.bel ((Below.refl _ _).alloc (Nat.le_refl _) (.cells #[.slice A5 32 c5] 24)))))
      refine RD.h_run (.slice (some ⟨X1.heap.size, 0, none⟩) 1 1) (X1.alloc (.cells #[.slice A5 32 c5] 24)) rfl (by rfl) (by go_simp) ⟨HS2.out, ?_⟩
      simp only [Act.put, List.setIfInBounds_toArray, List.set_cons_zero, List.set_cons_succ]
      refine RD.h_any [6] (by kernel_rfl) (by simp) (RD.one_of ?_)
      refine RD.h_op rfl (step_append_lies _ (by rfl) (.tmp 28) (.tmp 33) 61 (by rfl) wL.heap.size 24 i0 _ 1 24 Tryz.underlying61 HI.out hz0 hz1 hz2 rfl (by omega) v k vs (by rfl) ((HR.out.drew.below B5.out).alloc _).own ⟨X1.heap.size, 0, none⟩ 1 1 [.slice A5 32 c5] (by rfl) (by rfl) (World.news_of_block (heap_alloc_new X1 _)) (by simp [Value.oneCell']) (by omega) (by simp only [maxLen]; omega) (by omega) (by have q1 := B5.out.size; have q2 := HSZ.out; simp only [World.size_alloc]; omega) (X1.heap.size + 1) (by simp) ?_)
      intro gg cap X3 o3 g3 a3 l3
      have E3 : Bk X3 E 61 #[v] := ((HE.out.drew.below B5.out HE.out.drew.lt).alloc _).only g3 (fun e => by have := (HR.out.own.lt E e.symm).1; have := HEL.out; omega)
      have e3 := E3.cell 0
      have f3 := E3.frozen 0
      simp at e3
      have HS3 := Lib.hid (LK.out _ (((KE.bel B5.out).trans (KE.bel ((Below.refl _ _).alloc (Nat.le_refl _) (.cells #[.slice A5 32 c5] 24)))).trans (KE.grown g3 fun r e => (HR.out.own.lt r e).1)))
      have HS4 := Lib.hid (LK.out _ ((((KE.bel B5.out).trans (KE.bel ((Below.refl _ _).alloc (Nat.le_refl _) (.cells #[.slice A5 32 c5] 24)))).trans (KE.grown g3 fun r e => (HR.out.own.lt r e).1)).trans (KE.set X3 0 (.slice (some ⟨gg, 0, none⟩) (k + 1) cap))))
      have HX := Lib.hid (LI.step HWE.out HEL.out HII.out HE.out HR.out B5.out R5.out HNX.out (fun a ha e => by have h1 := N5.out a ha; have h2 := (HR.out.own.lt a.block e).2; simp at h1; omega) o3 g3 a3)
      clear o3 g3 a3 l3 E3
      refine ⟨HS3.out, ?_⟩
      simp only [Act.put, List.setIfInBounds_toArray, List.set_cons_zero, List.set_cons_succ]
      refine RD.h_any [7] (by kernel_rfl) (by simp) (RD.one_of ?_)
      refine RD.h_skip (X3.setCell ⟨E, 0, none⟩ (.slice (some ⟨gg, 0, none⟩) (k + 1) cap)) rfl (by rfl) (by go_simp) ⟨HS4.out, ?_⟩
      simp only [Act.put, List.setIfInBounds_toArray, List.set_cons_zero, List.set_cons_succ]
      exact RD.h_done (by kernel_rfl) ⟨rfl, HX.out⟩
    · refine RD.h_call 61 #[(.agg #[.slice Ae 32 ce, .int .u32 (ly : Int), .int .u64 (tr : Int), .int .u32 (qq : Int)]), .int .i64 (k : Int), .int .i64 0, .int .i64 15, .slice Ax 32 cx] rfl (by rfl) (by go_simp) ((UP.out W.drew k Ax cx BW.out.drew hk RX.out.drew).mono ?_)
      rintro e X1 ⟨A5, c5, rfl, r5, n5, b5⟩
      have R5 := Lib.hid r5
      have N5 := Lib.hid n5
      have B5 := Lib.hid b5
      have E1 := HE.out.drew.below b5 HE.out.drew.lt
      have e1 := E1.cell 0
      simp at e1
      have HS1 := Lib.hid (LK.out _ (KE.bel b5))
      clear r5 n5 b5
      refine ⟨_, rfl, HS1.out, ?_⟩
      simp only [Act.put, List.setIfInBounds_toArray, List.set_cons_zero, List.set_cons_succ]
      refine RD.h_any [0, 5] (by kernel_rfl) (by simp) (RD.two_of ?_ ?_)
      · refine RD.h_run v X1 rfl (by rfl) (by go_simp) ⟨HS1.out, ?_⟩
        simp only [Act.put, List.setIfInBounds_toArray, List.set_cons_zero, List.set_cons_succ]
        refine RD.h_any [5] (by kernel_rfl) (by simp) (RD.one_of ?_)
        have HS2 := Lib.hid (LK.out _ ((KE.bel B5.out).trans (KE.bel ((Below.refl _ _).alloc (Nat.le_refl _) (.cells #[.slice A5 32 c5] 24)))))
        refine RD.h_run (.slice (some ⟨X1.heap.size, 0, none⟩) 1 1) (X1.alloc (.cells #[.slice A5 32 c5] 24)) rfl (by rfl) (by go_simp) ⟨HS2.out, ?_⟩
        simp only [Act.put, List.setIfInBounds_toArray, List.set_cons_zero, List.set_cons_succ]
        refine RD.h_any [6] (by kernel_rfl) (by simp) (RD.one_of ?_)
        refine RD.h_op rfl (step_append_lies _ (by rfl) (.tmp 28) (.tmp 33) 61 (by rfl) wL.heap.size 24 i0 _ 1 24 Tryz.underlying61 HI.out hz0 hz1 hz2 rfl (by omega) v k vs (by rfl) ((HR.out.drew.below B5.out).alloc _).own ⟨X1.heap.size, 0, none⟩ 1 1 [.slice A5 32 c5] (by rfl) (by rfl) (World.news_of_block (heap_alloc_new X1 _)) (by simp [Value.oneCell']) (by omega) (by simp only [maxLen]; omega) (by omega) (by have q1 := B5.out.size; have q2 := HSZ.out; simp only [World.size_alloc]; omega) (X1.heap.size + 1) (by simp) ?_)
        intro gg cap X3 o3 g3 a3 l3
        have E3 : Bk X3 E 61 #[v] := ((HE.out.drew.below B5.out HE.out.drew.lt).alloc _).only g3 (fun e => by have := (HR.out.own.lt E e.symm).1; have := HEL.out; omega)
        have e3 := E3.cell 0
        have f3 := E3.frozen 0
        simp at e3
        have HS3 := Lib.hid (LK.out _ (((KE.bel B5.out).trans (KE.bel ((Below.refl _ _).alloc (Nat.le_refl _) (.cells #[.slice A5 32 c5] 24)))).trans (KE.grown g3 fun r e => (HR.out.own.lt r e).1)))
        have HS4 := Lib.hid (LK.out _ ((((KE.bel B5.out).trans (KE.bel ((Below.refl _ _).alloc (Nat.le_refl _) (.cells #[.slice A5 32 c5] 24)))).trans (KE.grown g3 fun r e => (HR.out.own.lt r e).1)).trans (KE.set X3 0 (.slice (some ⟨gg, 0, none⟩) (k + 1) cap))))
        have HX := Lib.hid (LI.step HWE.out HEL.out HII.out HE.out HR.out B5.out R5.out HNX.out (fun a ha e => by have h1 := N5.out a ha; have h2 := (HR.out.own.lt a.block e).2; simp at h1; omega) o3 g3 a3)
        clear o3 g3 a3 l3 E3
        refine ⟨HS3.out, ?_⟩
        simp only [Act.put, List.setIfInBounds_toArray, List.set_cons_zero, List.set_cons_succ]
        refine RD.h_any [7] (by kernel_rfl) (by simp) (RD.one_of ?_)
        refine RD.h_skip (X3.setCell ⟨E, 0, none⟩ (.slice (some ⟨gg, 0, none⟩) (k + 1) cap)) rfl (by rfl) (by go_simp) ⟨HS4.out, ?_⟩
        simp only [Act.put, List.setIfInBounds_toArray, List.set_cons_zero, List.set_cons_succ]
        exact RD.h_done (by kernel_rfl) ⟨rfl, HX.out⟩
      · have HS2 := Lib.hid (LK.out _ ((KE.bel B5.out).trans (KE.bel ((Below.refl _ _).alloc (Nat.le_refl _) (.cells #[.slice A5 32 c5] 24)))))
        refine RD.h_run (.slice (some ⟨X1.heap.size, 0, none⟩) 1 1) (X1.alloc (.cells #[.slice A5 32 c5] 24)) rfl (by rfl) (by go_simp) ⟨HS2.out, ?_⟩
        simp only [Act.put, List.setIfInBounds_toArray, List.set_cons_zero, List.set_cons_succ]
        have e2 : (X1.alloc (.cells #[.slice A5 32 c5] 24)).cell? ⟨E, 0, none⟩ = some v := ((E1.alloc _).cell 0).trans (by simp)
        refine RD.h_any [0] (by kernel_rfl) (by simp) (RD.one_of ?_)
        refine RD.h_run v (X1.alloc (.cells #[.slice A5 32 c5] 24)) rfl (by rfl) (by go_simp) ⟨HS2.out, ?_⟩
        simp only [Act.put, List.setIfInBounds_toArray, List.set_cons_zero, List.set_cons_succ]
        refine RD.h_any [6] (by kernel_rfl) (by simp) (RD.one_of ?_)
        refine RD.h_op rfl (step_append_lies _ (by rfl) (.tmp 28) (.tmp 33) 61 (by rfl) wL.heap.size 24 i0 _ 1 24 Tryz.underlying61 HI.out hz0 hz1 hz2 rfl (by omega) v k vs (by rfl) ((HR.out.drew.below B5.out).alloc _).own ⟨X1.heap.size, 0, none⟩ 1 1 [.slice A5 32 c5] (by rfl) (by rfl) (World.news_of_block (heap_alloc_new X1 _)) (by simp [Value.oneCell']) (by omega) (by simp only [maxLen]; omega) (by omega) (by have q1 := B5.out.size; have q2 := HSZ.out; simp only [World.size_alloc]; omega) (X1.heap.size + 1) (by simp) ?_)
        intro gg cap X3 o3 g3 a3 l3
        have E3 : Bk X3 E 61 #[v] := ((HE.out.drew.below B5.out HE.out.drew.lt).alloc _).only g3 (fun e => by have := (HR.out.own.lt E e.symm).1; have := HEL.out; omega)
        have e3 := E3.cell 0
        have f3 := E3.frozen 0
        simp at e3
        have HS3 := Lib.hid (LK.out _ (((KE.bel B5.out).trans (KE.bel ((Below.refl _ _).alloc (Nat.le_refl _) (.cells #[.slice A5 32 c5] 24)))).trans (KE.grown g3 fun r e => (HR.out.own.lt r e).1)))
        have HS4 := Lib.hid (LK.out _ ((((KE.bel B5.out).trans (KE.bel ((Below.refl _ _).alloc (Nat.le_refl _) (.cells #[.slice A5 32 c5] 24)))).trans (KE.grown g3 fun r e => (HR.out.own.lt r e).1)).trans (KE.set X3 0 (.slice (some ⟨gg, 0, none⟩) (k + 1) cap))))
        have HX := Lib.hid (LI.step HWE.out HEL.out HII.out HE.out HR.out B5.out R5.out HNX.out (fun a ha e => by have h1 := N5.out a ha; have h2 := (HR.out.own.lt a.block e).2; simp at h1; omega) o3 g3 a3)
        clear o3 g3 a3 l3 E3
        refine ⟨HS3.out, ?_⟩
        simp only [Act.put, List.setIfInBounds_toArray, List.set_cons_zero, List.set_cons_succ]
        refine RD.h_any [7] (by kernel_rfl) (by simp) (RD.one_of ?_)
        refine RD.h_skip (X3.setCell ⟨E, 0, none⟩ (.slice (some ⟨gg, 0, none⟩) (k + 1) cap)) rfl (by rfl) (by go_simp) ⟨HS4.out, ?_⟩
        simp only [Act.put, List.setIfInBounds_toArray, List.set_cons_zero, List.set_cons_succ]
        exact RD.h_done (by kernel_rfl) ⟨rfl, HX.out⟩
  case done =>
    intro D' W hD' hI hK
    obtain ⟨v, vs, hE, hR⟩ := hI.ends
    rw [List.take_of_length_le (by have := EL.out; omega)] at hR
    obtain ⟨Av, cv, rfl⟩ := hR.form
    have HRD := Lib.hid hR.read
    have BW := Lib.hid hI.bel
    have HKD := Lib.hid hK
    obtain ⟨l0, l1, l2, l3⟩ := lf_keep hI.ke DL.out (by have := HSL.out; omega) (by have := HSL.out; omega)
    have e0 : W.cell? ⟨E, 0, none⟩ = some (.slice Av 67 cv) := by have := hE.cell 0; simpa using this
    clear hE hR hI hK
    go_wp2_with (go_at_call 75; ((with_reducible refine (SUM.out _ Av cv BW.out HRD.out).mono ?_); rintro e w6 ⟨A6, n6, c6, rfl, q6, b6⟩; have O6 := Lib.hid q6; have B6 := Lib.hid b6; clear q6 b6))
    have MK := below_at B6.out HKD.out
    refine ⟨by simp, .inl ⟨_, _, rfl, run_takeDeferred MK, ?_⟩⟩
    exact ⟨_, results_tmp rfl _ _ _, New.mk ((CK.putObj MK rfl).own (own_base O6.out BW.out.size)) ((BW.out.trans (B6.out.mono BW.out.size)).trans (belowK_b (w := wL) (by have := HSL.out; omega) w6 D' _ _ hD' MK rfl rfl))⟩
theorem leaf_may (As : Option Addr) (cs : Nat) (sec : List UInt8) (Al : Option Addr) (cl : Nat) (Ae : Option Addr) (ce : Nat) (sd : List UInt8) (ly tr qq : Nat) (w : World) (hk : GK w) (hs : Rd w As 32 cs sec) (he : Rd w Ae 32 ce sd) (h1 : ly < 4294967296) (h2 : tr < 18446744073709551616) (h3 : qq < 4294967296) :
    Calls Tryz.prog 54 #[.agg (mkA As 32 cs Al 32 cl Ae 32 ce), .int .u32 (ly : Int), .int .u64 (tr : Int), .int .u32 (qq : Int)] w (New w.heap.size w (leafL sec sd (adQ ly tr qq))) :=
  leaf_core As cs Al cl Ae ce ly tr qq w (fun k => secL sec (adQ ly tr qq) k) (fun k => upL sd (adQ ly tr qq) k 0 15 (secL sec (adQ ly tr qq) k)) (endsL sec sd (adQ ly tr qq)) (prfL sec (adB (adQ ly tr qq) 0)) _
    (fun X => may_any15 As 32 cs Al 32 cl Ae 32 ce X)
    (fun X hX => secrets_any Ae ce ly tr qq As cs sec X (hk.bel hX) (hs.below hX) h1 h2 h3)
    (fun X k bk Ak ck hX hk' hb hr => sec1_any k hk' bk Ak ck sec (adQ ly tr qq) X (hk.bel hX) hb hr)
    (fun X k B cB hX hk' hz => up_new Ae ce ly tr qq k 0 15 (by omega) (by omega) sd B cB _ X (hk.bel hX) (he.below hX) hz (by omega) h1 h2 h3)
    (fun X B cB hX hz => sumOf_any Ae ce ly tr qq sd B 67 cB _ X (hk.bel hX) (he.below hX) hz (ends_32 _ _ _) (by omega) (by omega) h1 h2 h3)
    (fun k h => ends_get sec sd _ k h) (ends_len _ _ _)
set_option maxHeartbeats 1000000 in
theorem leaf_not (As : Option Addr) (ns cs : Nat) (Al : Option Addr) (nl cl : Nat) (Ae : Option Addr) (ne ce : Nat) (ly tr qq : Nat) (w : World) (h : mayN ns nl ne = false) :
    Calls Tryz.prog 54 #[.agg (mkA As ns cs Al nl cl Ae ne ce), .int .u32 (ly : Int), .int .u64 (tr : Int), .int .u32 (qq : Int)] w (New w.heap.size w []) := by
  obtain ⟨g, hg⟩ : ∃ g, g = w.heap.size := ⟨_, rfl⟩
  obtain ⟨w0, hw0⟩ : ∃ w0, w.alloc (.cells (mkA As ns cs Al nl cl Ae ne ce) 26) = w0 := ⟨_, rfl⟩
  have M0 := Lib.hid (show Bk w0 g 26 (mkA As ns cs Al nl cl Ae ne ce) by rw [← hw0, hg]; exact Bk.new _ _ _)
  have B0 := Lib.hid (show Below w.heap.size w w0 by rw [← hw0]; exact (Below.refl _ _).alloc (Nat.le_refl _) _)
  have MY := Lib.hid (show ∀ X, Calls Tryz.prog 52 #[.agg #[.slice As ns cs, .slice Al nl cl, .slice Ae ne ce]] X fun e w' => e = .returned (.bool false) ∧ Below X.heap.size X w' from fun X => by rw [← h]; exact may_any15 As ns cs Al nl cl Ae ne ce X)
  clear h
  go_enter Tryz.func54, Tryz.ntmps54
  go_upto_region 1 with (fail)
  rw [← hg]
  have k0 : w0.cell? ⟨g, 0, none⟩ = some (.slice As ns cs) := M0.out.cell 0
  have k1 : w0.cell? ⟨g, 1, none⟩ = some (.slice Al nl cl) := M0.out.cell 1
  have k2 : w0.cell? ⟨g, 2, none⟩ = some (.slice Ae ne ce) := M0.out.cell 2
  clear hw0 hg
  go_wp2_with (go_at_call 52; ((with_reducible refine (MY.out _).mono ?_); rintro e w1 ⟨rfl, b1⟩; have B1 := Lib.hid (B0.out.trans (b1.mono B0.out.size)); clear b1))
  go_ret
  exact New.mk (World.ownsRow_nil _ _ _ _) B1.out
theorem leafW_any (As : Option Addr) (ns cs : Nat) (sec : List UInt8) (Al : Option Addr) (nl cl : Nat) (salt : List UInt8) (Ae : Option Addr) (ne ce : Nat) (sd : List UInt8) (ly tr qq : Nat) (w : World) (hk : GK w) (hs : Rd w As ns cs sec) (hl : Rd w Al nl cl salt) (he : Rd w Ae ne ce sd) (h1 : ly < 4294967296) (h2 : tr < 18446744073709551616) (h3 : qq < 4294967296) :
    Calls Tryz.prog 54 #[.agg (mkA As ns cs Al nl cl Ae ne ce), .int .u32 (ly : Int), .int .u64 (tr : Int), .int .u32 (qq : Int)] w (New w.heap.size w (leafW sec salt sd ly tr qq)) := by
  unfold leafW
  rw [hs.len, hl.len, he.len]
  by_cases h : mayN ns nl ne = true
  · obtain ⟨rfl, rfl, rfl⟩ := mayN_iff.1 h
    rw [if_pos h]
    exact leaf_may As cs sec Al cl Ae ce sd ly tr qq w hk hs he h1 h2 h3
  · rw [if_neg h]
    exact leaf_not As ns cs Al nl cl Ae ne ce ly tr qq w (by simpa using h)
end Go.Proofs.YtkpfppiedadmbaaGreatDoor.S15
