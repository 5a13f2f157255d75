/-
  The call of the statement SetsDigits of layer 8.
-/
import Derived.Test.YtbkafkpnohbccaaDoorSetE
import Derived.Test.YtbkafkpnohbccaaDoorSetP
import Derived.Deep.RegionHeld3
namespace Go.Proofs.YtbkafkpnohbccaaDoor.S8
set_option linter.unusedSimpArgs false
set_option linter.unusedVariables false
open Go.RowKit S7

theorem madeZ (n : Nat) : (madeCells #[Value.int .u8 0] n).toList = bv (List.replicate n 0) := bv_zero n
theorem keep6 {w' : World} {g0 : Nat} {o0 o1 o2 o3 o4 o5 : Int} (h0 : Bk w' g0 24 #[.int .u32 o0, .int .i64 o1, .int .i64 o2, .int .i64 o3, .int .i64 o4, .int .i64 o5]) :
    w'.cell? ⟨g0, 2, none⟩ = some (.int .i64 o2) ∧ w'.cell? ⟨g0, 3, none⟩ = some (.int .i64 o3) ∧ w'.cell? ⟨g0, 4, none⟩ = some (.int .i64 o4) ∧ w'.cell? ⟨g0, 5, none⟩ = some (.int .i64 o5) := ⟨h0.cell 2, h0.cell 3, h0.cell 4, h0.cell 5⟩
set_option maxRecDepth 100000 in
set_option maxHeartbeats 8000000 in
theorem setsDigits_walk (M : SC) (D : DC) (W : World) (hk : M.ok W) (hd : D.ok W) (q : Int) (wq : (Lit.int .u8 q).wf = true) :
    Calls Tryd.prog 7 #[.int .u8 q] W fun e w' => e = .returned (.bool true) ∧ Below W.heap.size W w' := by
  have wq' : 0 ≤ q ∧ q ≤ 255 := by simpa [Lit.wf, IntKind.min, IntKind.max, IntKind.signed, IntKind.bits] using wq
  obtain ⟨Q, rfl⟩ := Int.eq_ofNat_of_zero_le wq'.1
  have hQ : Q < 256 := by omega
  clear wq wq'
  have HK := Lib.hid hk
  have HD := Lib.hid hd
  clear hk hd
  obtain ⟨r, hr⟩ : ∃ r, r = Q % 16 := ⟨_, rfl⟩
  have k2 : (Q : Int).tmod 16 = (r : Int) := by rw [Int.tmod_eq_emod_of_nonneg (by omega)]; omega
  have k3 : (Q : Int) % 16 = (r : Int) := by omega
  obtain ⟨c, hc⟩ : ∃ c, c = r + 1 := ⟨_, rfl⟩
  have k4 : 1 + (r : Int) = (c : Int) := by omega
  have hr16 : r < 16 := by omega
  have hok : okO c = true := by simp [okO]; omega
  have hc17 : c < 17 := by omega
  obtain ⟨n1, n2, n3⟩ := cntF_all c hok
  obtain ⟨p1, p2, p3⟩ := oP_small c hok
  obtain ⟨K, hK⟩ : ∃ K, K = oK c := ⟨_, rfl⟩
  obtain ⟨N, hN⟩ : ∃ N, N = oN c := ⟨_, rfl⟩
  obtain ⟨V, hV⟩ : ∃ V, V = oW c := ⟨_, rfl⟩
  obtain ⟨P, hP⟩ : ∃ P, P = oP c := ⟨_, rfl⟩
  obtain ⟨S, hS⟩ : ∃ S, S = oS c := ⟨_, rfl⟩
  have hVw : wid V := by rw [hV]; exact oW_wid c
  have HO := Lib.hid (show ∀ X, M.ok X → Calls Tryd.prog 9 #[.int .u32 (c : Int)] X fun e w' => e = .returned (.tuple #[.agg #[.int .u32 (c : Int), .int .i64 (K : Int), .int .i64 (N : Int), .int .i64 (V : Int), .int .i64 (P : Int), .int .i64 (S : Int)], .int .i64 0]) ∧ Below X.heap.size X w' from fun X g => by
    have h := M.ots c X (by omega) g
    rw [otsA, otsE, hok, if_pos rfl, if_pos rfl, ← hK, ← hN, ← hV, ← hP, ← hS] at h
    exact h)
  rw [← hN] at n3
  have hNb : 1 ≤ N ∧ N ≤ 64 := by rcases n3 with h | h <;> omega
  have hokS : okS (N : Int) (V : Int) = true := by simp [okS, may_wid hVw]; omega
  obtain ⟨U, hU⟩ : ∃ U, U = shU N V := ⟨_, rfl⟩
  obtain ⟨V2, hV2⟩ : ∃ V2, V2 = shV N V := ⟨_, rfl⟩
  have hSL : S = shL N V := by rw [hS, hN, hV]; rfl
  have hPU : P = U + V2 := by rw [hP, p3, hU, hV2, hN, hV]
  have HSH := Lib.hid (show ∀ X, D.ok X → Calls Tryd.prog 18 #[.int .i64 (N : Int), .int .i64 (V : Int)] X fun e w' => e = .returned (.tuple #[.int .i64 (U : Int), .int .i64 (V2 : Int), .int .i64 (S : Int)]) ∧ Below X.heap.size X w' from fun X g => by
    have h := D.shape N V X g
    rw [shW, hokS, if_pos rfl, Int.toNat_natCast, Int.toNat_natCast, ← hU, ← hV2, ← hSL] at h
    exact h)
  have HMY := Lib.hid (show ∀ X, D.ok X → Calls Tryd.prog 20 #[.int .i64 (V : Int)] X fun e w' => e = .returned (.bool true) ∧ Below X.heap.size X w' from fun X g => by rw [← may_wid hVw]; exact D.may V X g)
  obtain ⟨Z, hZ⟩ : ∃ Z, Z = allW V (List.replicate N 0) := ⟨_, rfl⟩
  have LZ := Lib.hid (show Z.length = P by
    rw [hPU, hZ, allW, List.length_replicate, hokS, if_pos rfl, Int.toNat_natCast, allL_length V hVw _ (by simp; omega) (by simp; omega), List.length_replicate, hU, hV2])
  have HAL := Lib.hid (show ∀ X B, D.ok X → Rd X B N N (List.replicate N 0) → Calls Tryd.prog 19 #[.slice B N N, .int .i64 (V : Int)] X (GivesI X.heap.size X Z) from fun X B g h => by rw [hZ]; exact D.all B N N _ V X g h (by omega))
  have z1 : (U : Int) + (V2 : Int) = (P : Int) := by omega
  have z2 : ((P : Int) == (P : Int)) = true := by simp
  have z3 : ((S : Int) == (S : Int)) = true := by simp
  have hPb : P ≤ 265 := by rw [hP]; exact p1
  have z4 : IntKind.i64.wrap (P : Int) = (P : Int) := by rw [IntKind.wrap_i64]; omega
  clear hr hc hok n1 n2 hK hN hV hP hS hVw hokS hU hV2 hSL hPU hZ p1 p2 p3
  go_enter Tryd.func7, Tryd.ntmps7
  go_upto_region 6 with (first
    | (go_at_call 8; ((with_reducible refine (awake_true M _ HK.out).mono ?_); rintro e w1 ⟨rfl, c1⟩; have B1 := Lib.hid c1; clear c1))
    | (go_at_call 9; ((with_reducible refine (HO.out _ (M.bel HK.out B1.out)).mono ?_); rintro e w2 ⟨rfl, c2⟩; have B2 := Lib.hid (B1.out.trans (c2.mono B1.out.size)); have O2 := Lib.hid (Bk.new w2 24 #[.int .u32 (c : Int), .int .i64 (K : Int), .int .i64 (N : Int), .int .i64 (V : Int), .int .i64 (P : Int), .int .i64 (S : Int)]); clear c2)))
  obtain ⟨w3, hw3⟩ : ∃ w3, w2.alloc (.cells #[.int .u32 (c : Int), .int .i64 (K : Int), .int .i64 (N : Int), .int .i64 (V : Int), .int .i64 (P : Int), .int .i64 (S : Int)] 24) = w3 := ⟨_, rfl⟩
  have O3 := O2.out
  have B3 := Lib.hid (B2.out.alloc B2.out.size (.cells #[.int .u32 (c : Int), .int .i64 (K : Int), .int .i64 (N : Int), .int .i64 (V : Int), .int .i64 (P : Int), .int .i64 (S : Int)] 24))
  rw [hw3] at O3 B3 ⊢
  obtain ⟨g, hg⟩ : ∃ g, g = w2.heap.size := ⟨_, rfl⟩
  rw [← hg] at O3 ⊢
  have o2 := O3.cell 2
  have o3 := O3.cell 3
  simp at o2 o3
  have HO3 := Lib.hid O3
  clear hw3 hg O3 O2 k2 k3 k4
  go_upto_region 7 with (go_at_call 18; ((with_reducible refine (HSH.out _ (D.bel HD.out B3.out)).mono ?_); rintro e w4 ⟨rfl, c4⟩; have B4 := Lib.hid (B3.out.trans (c4.mono B3.out.size)); have O4 := Lib.hid (HO3.out.below c4 HO3.out.lt); clear c4))
  have BD := Lib.hid B4.out.drew
  have OD := Lib.hid O4.out.drew
  clear o2 o3
  rcases n3 with hN | hN
  · subst hN
    have hmk : ∀ X, (Instr.makeSlice 47 (.int .i64 24) (.int .i64 24)).run Tryd.prog X = .ok (.slice (some ⟨X.heap.size, 0, none⟩) 24 24) (X.alloc (.cells (madeCells #[Value.int .u8 0] 24) 5)) := fun _ => by kernel_rfl
    have RZ := Lib.hid (show Rd (w4.alloc (.cells (madeCells #[Value.int .u8 0] 24) 5)).drew (some ⟨w4.heap.size, 0, none⟩) 24 24 (List.replicate 24 0) by
      have h := (rd_lit8 w4 (madeCells #[Value.int .u8 0] 24) (List.replicate 24 0) (madeZ 24) (by simp [maxLen]) _ rfl).drew
      simpa using h)
    have BZ := Lib.hid (show Below W.heap.size W (w4.alloc (.cells (madeCells #[Value.int .u8 0] 24) 5)).drew from (B4.out.alloc B4.out.size _).drew)
    have OZ := Lib.hid (O4.out.alloc (.cells (madeCells #[Value.int .u8 0] 24) 5)).drew
    generalize hmc : madeCells #[Value.int .u8 0] 24 = mc at hmk RZ BZ OZ
    clear hmc
    first
    | (go_region_held3 (fun w' => w'.cell? ⟨g, 2, none⟩ = some (.int .i64 24) ∧ w'.cell? ⟨g, 3, none⟩ = some (.int .i64 (V : Int)) ∧ w'.cell? ⟨g, 4, none⟩ = some (.int .i64 (P : Int)) ∧ w'.cell? ⟨g, 5, none⟩ = some (.int .i64 (S : Int)))
      (first
        | exact keep6 O8.out
        | exact keep6 O7.out
        | exact keep6 OZ.out
        | exact keep6 OD.out)
      (first
        | (go_at_call 19; ((with_reducible refine (HAL.out _ _ (D.bel HD.out BZ.out) RZ.out).mono ?_); intro e w7 h7; obtain ⟨A7, c7, rfl, r7, b7⟩ := h7; rw [LZ.out]; have B7 := Lib.hid (BZ.out.trans (b7.mono BZ.out.size)); have O7 := Lib.hid (OZ.out.below b7 OZ.out.lt); clear b7 r7))
        | (go_at_call 20; ((with_reducible refine (HMY.out _ (D.bel HD.out B7.out)).mono ?_); rintro e w8 ⟨rfl, b8⟩; have B8 := Lib.hid (B7.out.trans (b8.mono B7.out.size)); have O8 := Lib.hid (O7.out.below b8 O7.out.lt); clear b8))
        | fail))
    | fail
    go_wp2
    go_ret
    exact ⟨rfl, B8.out⟩
  · subst hN
    have hmk : ∀ X, (Instr.makeSlice 47 (.int .i64 32) (.int .i64 32)).run Tryd.prog X = .ok (.slice (some ⟨X.heap.size, 0, none⟩) 32 32) (X.alloc (.cells (madeCells #[Value.int .u8 0] 32) 5)) := fun _ => by kernel_rfl
    have RZ := Lib.hid (show Rd (w4.alloc (.cells (madeCells #[Value.int .u8 0] 32) 5)).drew (some ⟨w4.heap.size, 0, none⟩) 32 32 (List.replicate 32 0) by
      have h := (rd_lit8 w4 (madeCells #[Value.int .u8 0] 32) (List.replicate 32 0) (madeZ 32) (by simp [maxLen]) _ rfl).drew
      simpa using h)
    have BZ := Lib.hid (show Below W.heap.size W (w4.alloc (.cells (madeCells #[Value.int .u8 0] 32) 5)).drew from (B4.out.alloc B4.out.size _).drew)
    have OZ := Lib.hid (O4.out.alloc (.cells (madeCells #[Value.int .u8 0] 32) 5)).drew
    generalize hmc : madeCells #[Value.int .u8 0] 32 = mc at hmk RZ BZ OZ
    clear hmc
    first
    | (go_region_held3 (fun w' => w'.cell? ⟨g, 2, none⟩ = some (.int .i64 32) ∧ w'.cell? ⟨g, 3, none⟩ = some (.int .i64 (V : Int)) ∧ w'.cell? ⟨g, 4, none⟩ = some (.int .i64 (P : Int)) ∧ w'.cell? ⟨g, 5, none⟩ = some (.int .i64 (S : Int)))
      (first
        | exact keep6 O8.out
        | exact keep6 O7.out
        | exact keep6 OZ.out
        | exact keep6 OD.out)
      (first
        | (go_at_call 19; ((with_reducible refine (HAL.out _ _ (D.bel HD.out BZ.out) RZ.out).mono ?_); intro e w7 h7; obtain ⟨A7, c7, rfl, r7, b7⟩ := h7; rw [LZ.out]; have B7 := Lib.hid (BZ.out.trans (b7.mono BZ.out.size)); have O7 := Lib.hid (OZ.out.below b7 OZ.out.lt); clear b7 r7))
        | (go_at_call 20; ((with_reducible refine (HMY.out _ (D.bel HD.out B7.out)).mono ?_); rintro e w8 ⟨rfl, b8⟩; have B8 := Lib.hid (B7.out.trans (b8.mono B7.out.size)); have O8 := Lib.hid (O7.out.below b8 O7.out.lt); clear b8))
        | fail))
    | fail
    go_wp2
    go_ret
    exact ⟨rfl, B8.out⟩
end Go.Proofs.YtbkafkpnohbccaaDoor.S8
