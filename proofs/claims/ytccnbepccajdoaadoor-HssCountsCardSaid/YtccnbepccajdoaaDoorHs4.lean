/-
  What the landed hss.otsOf, hss.treeOf and hss.heights do. No statement is proved here.
-/
import Derived.Test.YtccnbepccajdoaaDoorHs3
namespace Go.Proofs.YtccnbepccajdoaaDoor.S13
set_option linter.unusedSimpArgs false
set_option linter.unusedVariables false
open Go.RowKit S7 S8

set_option maxHeartbeats 1000000 in
theorem otsOf_yes (p : Pr) (hp : okP p = true) (l1 : p.1 < 4294967296) (l2 : p.2 < 4294967296) (w : World) (hk : S0.ok w) : Calls Tryd.prog 26 #[.agg #[.int .u32 (p.1 : Int), .int .u32 (p.2 : Int)]] w fun e w' => e = .returned (otsV p.1 (oK p.1) (oN p.1) (oW p.1) (oP p.1) (oS p.1)) ∧ Below w.heap.size w w' := by
  obtain ⟨a, b⟩ := p
  have hO := okP_O hp
  have HL := Lib.hid (show ∀ X, S0.ok X → Calls Tryd.prog 29 #[.agg #[.int .u32 (a : Int), .int .u32 (b : Int)]] X fun e w' => e = .returned (.bool true) ∧ Below X.heap.size X w' from fun X g => by
    have h := lmay_any (a, b) l1 l2 X g
    rw [hp] at h
    exact h)
  have HY := Lib.hid (fun X => LV.need_yes 4 X)
  simp only at l1 l2 hO ⊢
  obtain ⟨K, hK⟩ : ∃ K, K = oK a := ⟨_, rfl⟩
  obtain ⟨N, hN⟩ : ∃ N, N = oN a := ⟨_, rfl⟩
  obtain ⟨V, hV⟩ : ∃ V, V = oW a := ⟨_, rfl⟩
  obtain ⟨P, hP⟩ : ∃ P, P = oP a := ⟨_, rfl⟩
  obtain ⟨S, hS⟩ : ∃ S, S = oS a := ⟨_, rfl⟩
  rw [← hK, ← hN, ← hV, ← hP, ← hS]
  have HO := Lib.hid (show ∀ X, S0.ok X → Calls Tryd.prog 40 #[.int .u32 (a : Int)] X fun e w' => e = .returned (.tuple #[.agg #[.int .u32 (a : Int), .int .i64 (K : Int), .int .i64 (N : Int), .int .i64 (V : Int), .int .i64 (P : Int), .int .i64 (S : Int)], .int .i64 0]) ∧ Below X.heap.size X w' from fun X g => by
    have h := S0.ots a X l1 g
    rw [otsA, otsE, hO, if_pos rfl, if_pos rfl] at h
    rw [hK, hN, hV, hP, hS]
    exact h)
  have HM := Lib.hid (show ∀ X, Calls Tryd.prog 39 #[.agg #[.int .u32 (a : Int), .int .i64 (K : Int), .int .i64 (N : Int), .int .i64 (V : Int), .int .i64 (P : Int), .int .i64 (S : Int)], .int .i64 0] X fun e w' => e = .returned (.agg #[.int .u32 (a : Int), .int .i64 (K : Int), .int .i64 (N : Int), .int .i64 (V : Int), .int .i64 (P : Int), .int .i64 (S : Int)]) ∧ Below X.heap.size X w' from fun X => must_ots_yes a K N V P S X)
  have HK := Lib.hid hk
  unfold otsV
  clear hp hO l1 l2 hk hK hN hV hP hS
  have hbx := Bk.new w 34 #[.int .u32 (a : Int), .int .u32 (b : Int)]
  have HX := Lib.hid ((hbx.alloc (.cells #[.int .u32 0, .int .i64 0, .int .i64 0, .int .i64 0, .int .i64 0, .int .i64 0] 39)))
  have HR := Lib.hid (Bk.newAt (w.alloc (.cells #[.int .u32 (a : Int), .int .u32 (b : Int)] 34)) 39 #[.int .u32 0, .int .i64 0, .int .i64 0, .int .i64 0, .int .i64 0, .int .i64 0] (w.heap.size + 1) (by simp))
  clear hbx
  go_enter Tryd.func26, Tryd.ntmps26
  go_wp2_with (first
    | (go_at_call 29; ((with_reducible refine (HL.out _ (S0.bel HK.out (two_bel _ _ _))).mono ?_); rintro e w1 ⟨rfl, b1⟩; have X1 := Lib.hid (HX.out.below b1 HX.out.lt); have R1 := Lib.hid (HR.out.below b1 HR.out.lt); have B1 := Lib.hid ((two_bel w _ _).trans (b1.mono (two_bel w _ _).size)); have c0 := X1.out.cell 0; have c1 := X1.out.cell 1; simp at c0 c1; clear b1))
    | (go_at_call 16; ((with_reducible refine (HY.out _).mono ?_); rintro e w2 ⟨rfl, rfl⟩))
    | (go_at_call 40; ((with_reducible refine (HO.out _ (S0.bel HK.out B1.out)).mono ?_); rintro e w3 ⟨rfl, b3⟩; have R3 := Lib.hid (R1.out.below b3 R1.out.lt); have B3 := Lib.hid (B1.out.trans (b3.mono B1.out.size)); clear b3))
    | (go_at_call 39; ((with_reducible refine (HM.out _).mono ?_); rintro e w4 ⟨rfl, b4⟩; have R4 := Lib.hid (R3.out.below b4 R3.out.lt); have B4 := Lib.hid (B3.out.trans (b4.mono B3.out.size)); clear b4; have d0 := R4.out.cell 0; have d1 := R4.out.cell 1; have d2 := R4.out.cell 2; have d3 := R4.out.cell 3; have d4 := R4.out.cell 4; have d5 := R4.out.cell 5; have e0 := R4.out.frozen 0; have e1 := R4.out.frozen 1; have e2 := R4.out.frozen 2; have e3 := R4.out.frozen 3; have e4 := R4.out.frozen 4; have e5 := R4.out.frozen 5; simp at d0 d1 d2 d3 d4 d5)))
  refine bodyPost_ret (results_cell_row rfl _ _ (w.heap.size + 1) 39 #[.int .u32 (a : Int), .int .i64 (K : Int), .int .i64 (N : Int), .int .i64 (V : Int), .int .i64 (P : Int), .int .i64 (S : Int)] (0, 0) _ rfl ((((((R4.out.put 0 _).put 1 _).put 2 _).put 3 _).put 4 _).put 5 _) Tryd.underlying39 rfl Tryd.infoOts) rfl ?_
  exact ⟨rfl, (((((B4.out.setCell (by simp) _).setCell (by simp) _).setCell (by simp) _).setCell (by simp) _).setCell (by simp) _).setCell (by simp) _⟩
set_option maxHeartbeats 1000000 in
theorem treeOf_yes (p : Pr) (hp : okP p = true) (l1 : p.1 < 4294967296) (l2 : p.2 < 4294967296) (w : World) (hk : S0.ok w) : Calls Tryd.prog 19 #[.agg #[.int .u32 (p.1 : Int), .int .u32 (p.2 : Int)]] w fun e w' => e = .returned (treeV p.2 (tK p.2) (tN p.2) (tH p.2)) ∧ Below w.heap.size w w' := by
  obtain ⟨a, b⟩ := p
  have hO := okP_T hp
  have HL := Lib.hid (show ∀ X, S0.ok X → Calls Tryd.prog 29 #[.agg #[.int .u32 (a : Int), .int .u32 (b : Int)]] X fun e w' => e = .returned (.bool true) ∧ Below X.heap.size X w' from fun X g => by
    have h := lmay_any (a, b) l1 l2 X g
    rw [hp] at h
    exact h)
  have HY := Lib.hid (fun X => LV.need_yes 4 X)
  simp only at l1 l2 hO ⊢
  obtain ⟨K, hK⟩ : ∃ K, K = tK b := ⟨_, rfl⟩
  obtain ⟨N, hN⟩ : ∃ N, N = tN b := ⟨_, rfl⟩
  obtain ⟨H, hH⟩ : ∃ N, N = tH b := ⟨_, rfl⟩
  rw [← hK, ← hN, ← hH]
  have HO := Lib.hid (show ∀ X, S0.ok X → Calls Tryd.prog 31 #[.int .u32 (b : Int)] X fun e w' => e = .returned (.tuple #[.agg #[.int .u32 (b : Int), .int .i64 (K : Int), .int .i64 (N : Int), .int .i64 (H : Int)], .int .i64 0]) ∧ Below X.heap.size X w' from fun X g => by
    have h := S0.tree b X l2 g
    rw [treeA, treeE, hO, if_pos rfl, if_pos rfl] at h
    rw [hK, hN, hH]
    exact h)
  have HM := Lib.hid (show ∀ X, Calls Tryd.prog 30 #[.agg #[.int .u32 (b : Int), .int .i64 (K : Int), .int .i64 (N : Int), .int .i64 (H : Int)], .int .i64 0] X fun e w' => e = .returned (.agg #[.int .u32 (b : Int), .int .i64 (K : Int), .int .i64 (N : Int), .int .i64 (H : Int)]) ∧ Below X.heap.size X w' from fun X => must_tree_yes b K N H X)
  have HK := Lib.hid hk
  unfold treeV
  clear hp hO l1 l2 hk hK hN hH
  have hbx := Bk.new w 34 #[.int .u32 (a : Int), .int .u32 (b : Int)]
  have HX := Lib.hid ((hbx.alloc (.cells #[.int .u32 0, .int .i64 0, .int .i64 0, .int .i64 0] 41)))
  have HR := Lib.hid (Bk.newAt (w.alloc (.cells #[.int .u32 (a : Int), .int .u32 (b : Int)] 34)) 41 #[.int .u32 0, .int .i64 0, .int .i64 0, .int .i64 0] (w.heap.size + 1) (by simp))
  clear hbx
  go_enter Tryd.func19, Tryd.ntmps19
  go_wp2_with (first
    | (go_at_call 29; ((with_reducible refine (HL.out _ (S0.bel HK.out (two_bel _ _ _))).mono ?_); rintro e w1 ⟨rfl, b1⟩; have X1 := Lib.hid (HX.out.below b1 HX.out.lt); have R1 := Lib.hid (HR.out.below b1 HR.out.lt); have B1 := Lib.hid ((two_bel w _ _).trans (b1.mono (two_bel w _ _).size)); have c0 := X1.out.cell 0; have c1 := X1.out.cell 1; simp at c0 c1; clear b1))
    | (go_at_call 16; ((with_reducible refine (HY.out _).mono ?_); rintro e w2 ⟨rfl, rfl⟩))
    | (go_at_call 31; ((with_reducible refine (HO.out _ (S0.bel HK.out B1.out)).mono ?_); rintro e w3 ⟨rfl, b3⟩; have R3 := Lib.hid (R1.out.below b3 R1.out.lt); have B3 := Lib.hid (B1.out.trans (b3.mono B1.out.size)); clear b3))
    | (go_at_call 30; ((with_reducible refine (HM.out _).mono ?_); rintro e w4 ⟨rfl, b4⟩; have R4 := Lib.hid (R3.out.below b4 R3.out.lt); have B4 := Lib.hid (B3.out.trans (b4.mono B3.out.size)); clear b4; have d0 := R4.out.cell 0; have d1 := R4.out.cell 1; have d2 := R4.out.cell 2; have d3 := R4.out.cell 3; have e0 := R4.out.frozen 0; have e1 := R4.out.frozen 1; have e2 := R4.out.frozen 2; have e3 := R4.out.frozen 3; simp at d0 d1 d2 d3)))
  refine bodyPost_ret (results_cell_row rfl _ _ (w.heap.size + 1) 41 #[.int .u32 (b : Int), .int .i64 (K : Int), .int .i64 (N : Int), .int .i64 (H : Int)] (0, 0) _ rfl ((((R4.out.put 0 _).put 1 _).put 2 _).put 3 _) Tryd.underlying41 rfl Tryd.infoTree) rfl ?_
  exact ⟨rfl, (((B4.out.setCell (by simp) _).setCell (by simp) _).setCell (by simp) _).setCell (by simp) _⟩
theorem otsOf_no (p : Pr) (hp : okP p = false) (l1 : p.1 < 4294967296) (l2 : p.2 < 4294967296) (w : World) (hk : S0.ok w) : Calls Tryd.prog 26 #[.agg #[.int .u32 (p.1 : Int), .int .u32 (p.2 : Int)]] w fun e w' => e = .panicked [LV.wrg 4] ∧ Below w.heap.size w w' := by
  obtain ⟨a, b⟩ := p
  have HL := Lib.hid (show ∀ X, S0.ok X → Calls Tryd.prog 29 #[.agg #[.int .u32 (a : Int), .int .u32 (b : Int)]] X fun e w' => e = .returned (.bool false) ∧ Below X.heap.size X w' from fun X g => by
    have h := lmay_any (a, b) l1 l2 X g
    rw [hp] at h
    exact h)
  have HN := Lib.hid (fun X => LV.need_no 4 X)
  have HK := Lib.hid hk
  simp only at l1 l2 ⊢
  clear hp l1 l2 hk
  go_enter Tryd.func26, Tryd.ntmps26
  go_wp2_with (first
    | (go_at_call 29; ((with_reducible refine (HL.out _ (S0.bel HK.out (two_bel _ _ _))).mono ?_); rintro e w1 ⟨rfl, b1⟩; have B1 := Lib.hid ((two_bel w _ _).trans (b1.mono (two_bel w _ _).size)); clear b1))
    | (go_at_call 16; ((with_reducible refine (HN.out _).mono ?_); rintro e w2 ⟨rfl, rfl⟩)))
  exact ⟨rfl, rfl, B1.out⟩
theorem treeOf_no (p : Pr) (hp : okP p = false) (l1 : p.1 < 4294967296) (l2 : p.2 < 4294967296) (w : World) (hk : S0.ok w) : Calls Tryd.prog 19 #[.agg #[.int .u32 (p.1 : Int), .int .u32 (p.2 : Int)]] w fun e w' => e = .panicked [LV.wrg 4] ∧ Below w.heap.size w w' := by
  obtain ⟨a, b⟩ := p
  have HL := Lib.hid (show ∀ X, S0.ok X → Calls Tryd.prog 29 #[.agg #[.int .u32 (a : Int), .int .u32 (b : Int)]] X fun e w' => e = .returned (.bool false) ∧ Below X.heap.size X w' from fun X g => by
    have h := lmay_any (a, b) l1 l2 X g
    rw [hp] at h
    exact h)
  have HN := Lib.hid (fun X => LV.need_no 4 X)
  have HK := Lib.hid hk
  simp only at l1 l2 ⊢
  clear hp l1 l2 hk
  go_enter Tryd.func19, Tryd.ntmps19
  go_wp2_with (first
    | (go_at_call 29; ((with_reducible refine (HL.out _ (S0.bel HK.out (two_bel _ _ _))).mono ?_); rintro e w1 ⟨rfl, b1⟩; have B1 := Lib.hid ((two_bel w _ _).trans (b1.mono (two_bel w _ _).size)); clear b1))
    | (go_at_call 16; ((with_reducible refine (HN.out _).mono ?_); rintro e w2 ⟨rfl, rfl⟩)))
  exact ⟨rfl, rfl, B1.out⟩

/-- The slice value of address A, length n and capacity c reads as the pairs L. -/
structure Rp (w : World) (A : Option Addr) (n c : Nat) (L : List Pr) : Prop where
  len : L.length = n
  cap : n ≤ c
  max : c ≤ maxLen
  rng : ∀ i, (at_ L i).1 < 4294967296 ∧ (at_ L i).2 < 4294967296
  at_ : 0 < n → ∃ b off, A = some ⟨b, off, none⟩ ∧ b < w.heap.size ∧ ∀ j, j < n → w.cell? ⟨b, off + j * 2, none⟩ = some (.int .u32 ((at_ L j).1 : Int)) ∧ w.cell? ⟨b, off + j * 2 + 1, none⟩ = some (.int .u32 ((at_ L j).2 : Int))
theorem Rp.below {w w' : World} {A : Option Addr} {n c : Nat} {L : List Pr} (h : Rp w A n c L) (hb : Below w.heap.size w w') : Rp w' A n c L :=
  ⟨h.len, h.cap, h.max, h.rng, fun hn => by
    obtain ⟨b, off, e, hbl, hc⟩ := h.at_ hn
    exact ⟨b, off, e, Nat.lt_of_lt_of_le hbl hb.size, fun j hj => ⟨(hb.cell (p := ⟨b, off + j * 2, none⟩) hbl).trans (hc j hj).1, (hb.cell (p := ⟨b, off + j * 2 + 1, none⟩) hbl).trans (hc j hj).2⟩⟩⟩
end Go.Proofs.YtccnbepccajdoaaDoor.S13
