/-
  The call of the statement DigitsRaise of layer 7.
-/
import Derived.Test.YtfhbnfhmicaklaaDoorDigW
import Derived.Test.YtfhbnfhmicaklaaDoorDigW2
import Derived.Test.YtfhbnfhmicaklaaDoorDigP2
import Derived.RegionTactic
import Derived.BigRegion
namespace Go.Proofs.YtfhbnfhmicaklaaDoor.S7
set_option linter.unusedSimpArgs false
set_option linter.unusedVariables false
open Go.RowKit

theorem own_ns {w : World} {B e n : Nat} {v : Value} {xs : List UInt8} (h : w.ownsRow B e 1 v (0 + n) (bv ([] ++ xs))) : w.ownsRow B e 1 v n (bv xs) := by simpa using h
set_option maxRecDepth 100000 in
set_option maxHeartbeats 4000000 in
theorem digitsRaise_walk (M : DC) (W : World) (hk : M.ok W) (A : Option Addr) (n c : Nat) (xs : List UInt8) (hr : Rd W A n c xs) (p : Int) (wp : (Lit.int .u16 p).wf = true) (q : Int) (wq : (Lit.int .u8 q).wf = true) :
    Calls Tryd.prog 7 #[.slice A n c, .int .u16 p, .int .u8 q] W fun e w' => e = .returned (.bool true) ∧ Below W.heap.size W w' := by
  have wq' : 0 ≤ q ∧ q ≤ 255 := by simpa [Lit.wf, IntKind.min, IntKind.max, IntKind.signed, IntKind.bits] using wq
  have wp' : 0 ≤ p ∧ p ≤ 65535 := by simpa [Lit.wf, IntKind.min, IntKind.max, IntKind.signed, IntKind.bits] using wp
  obtain ⟨Q, rfl⟩ := Int.eq_ofNat_of_zero_le wq'.1
  obtain ⟨P, rfl⟩ := Int.eq_ofNat_of_zero_le wp'.1
  have hQ : Q < 256 := by omega
  have hP : P < 65536 := by omega
  clear wq wq' wp wp'
  obtain ⟨r, hr4⟩ : ∃ r, r = Q % 4 := ⟨_, rfl⟩
  have hr5 : r < 4 := by omega
  have k2 : (Q : Int).tmod 4 = (r : Int) := by rw [Int.tmod_eq_emod_of_nonneg (by omega)]; omega
  have k3 : (Q : Int) % 4 = (r : Int) := by omega
  obtain ⟨v, hv⟩ : ∃ v, v = pkW r := ⟨_, rfl⟩
  have HV := Lib.hid (show wid v by rw [hv]; exact pk_wid r)
  have hpk := pk_load hr5 hv
  clear hr4 hv
  have HK := Lib.hid hk
  have lm : n ≤ maxLen := Nat.le_trans hr.cap hr.max
  unfold maxLen at lm
  have HR := Lib.hid hr
  have HL := Lib.hid hr.len
  clear hk hr
  by_cases hn0 : n = 0 ∨ 500 < n
  · have HLK := Lib.hid (show ∀ Z, M.ok Z → Calls Tryd.prog 16 #[.slice none 0 0, .int .i64 (v : Int)] Z fun e w' => e = .returned (.int .i64 0) ∧ Below Z.heap.size Z w' from fun Z g => by
      have h9 := M.lack none 0 0 [] v Z g (Rd.nil_ Z) (by omega)
      rw [lackW, may_wid HV.out, if_pos rfl, Int.toNat_natCast] at h9
      exact h9)
    by_cases hz : n = 0
    · have q1 : ((n : Int) == 0) = true := by simpa using hz
      clear hz hn0
      go_enter Tryd.func7, Tryd.ntmps7
      go_wp2_with (first
        | (go_at_call 8; ((with_reducible refine (awake_true M _ HK.out).mono ?_); rintro e w1 ⟨rfl, b1⟩; have B1 := Lib.hid b1; clear b1))
        | (go_at_call 16; ((with_reducible refine (HLK.out _ (M.bel HK.out (B1.out.alloc B1.out.size _))).mono ?_); rintro e w2 ⟨rfl, b2⟩; have B2 := Lib.hid ((B1.out.alloc B1.out.size _).trans (b2.mono (by have := B1.out.size; simp; omega))); clear b2)))
      go_ret
      exact ⟨rfl, B2.out⟩
    · have q1 : ((n : Int) == 0) = false := by simpa using hz
      have q2 : decide (500 < (n : Int)) = true := by simp; omega
      clear hz hn0
      go_enter Tryd.func7, Tryd.ntmps7
      go_wp2_with (first
        | (go_at_call 8; ((with_reducible refine (awake_true M _ HK.out).mono ?_); rintro e w1 ⟨rfl, b1⟩; have B1 := Lib.hid b1; clear b1))
        | (go_at_call 16; ((with_reducible refine (HLK.out _ (M.bel HK.out (B1.out.alloc B1.out.size _))).mono ?_); rintro e w2 ⟨rfl, b2⟩; have B2 := Lib.hid ((B1.out.alloc B1.out.size _).trans (b2.mono (by have := B1.out.size; simp; omega))); clear b2)))
      go_ret
      exact ⟨rfl, B2.out⟩
  · have hn1 : 1 ≤ n := by omega
    have hn5 : n ≤ 500 := by omega
    have q1 : ((n : Int) == 0) = false := by simp; omega
    have q2 : decide (500 < (n : Int)) = false := by simp; omega
    clear hn0
    obtain ⟨h8, hv1, hv8⟩ := wid_div HV.out
    obtain ⟨E, hE⟩ : ∃ E, E = 8 / v := ⟨_, rfl⟩
    have hE0 : 1 ≤ E := by rw [hE]; rcases HV.out with h | h | h | h <;> subst h <;> decide
    have hE8 : E ≤ 8 := by rw [hE]; rcases HV.out with h | h | h | h <;> subst h <;> decide
    obtain ⟨D, hD⟩ : ∃ D, D = ofL v xs := ⟨_, rfl⟩
    obtain ⟨T, hT⟩ : ∃ T, T = E * n := ⟨_, rfl⟩
    have hTb : T ≤ 4000 := by rw [hT]; exact Nat.mul_le_mul hE8 hn5
    have hT1 : 1 ≤ T := by rw [hT]; exact Nat.mul_pos hE0 hn1
    have LD := Lib.hid (show D.length = T by rw [hD, ofL_length, HL.out, hT, hE, Nat.mul_comm])
    obtain ⟨K, hK⟩ : ∃ K, K = lk v D := ⟨_, rfl⟩
    have hKb : K ≤ 255 * 4000 := by
      have h1 := lk_bound v HV.out D D.length
      rw [List.take_length, ← hK, LD.out] at h1
      omega
    have HO := Lib.hid (show ∀ Z, M.ok Z → Rd Z A n c xs → Calls Tryd.prog 14 #[.slice A n c, .int .i64 (v : Int)] Z (GivesI Z.heap.size Z D) from fun Z g h => by
      have h9 := M.of A n c xs v Z g h (by omega)
      rw [ofW, may_wid HV.out, if_pos rfl, Int.toNat_natCast, ← hD] at h9
      exact h9)
    have HLB := Lib.hid (show ∀ Z, M.ok Z → Rd Z A n c xs → Calls Tryd.prog 16 #[.slice A n c, .int .i64 (v : Int)] Z fun e w' => e = .returned (.int .i64 (K : Int)) ∧ Below Z.heap.size Z w' from fun Z g h => by
      have h9 := M.lack A n c xs v Z g h (by omega)
      rw [lackW, may_wid HV.out, if_pos rfl, Int.toNat_natCast, ← hD, ← hK] at h9
      exact h9)
    have vz : ¬ (v : Int) = 0 := by omega
    have e1 : (8 : Int).tdiv (v : Int) = (E : Int) := by rw [Int.tdiv_eq_ediv_of_nonneg (by omega), hE]; simp
    have e2 : (8 : Int) / (v : Int) = (E : Int) := by rw [hE]; simp
    have e3 : (E : Int) * (n : Int) = (T : Int) := by rw [hT, Int.natCast_mul]
    have e4 : IntKind.i64.wrap (T : Int) = (T : Int) := by rw [IntKind.wrap_i64]; omega
    have e5 : IntKind.i64.wrap (E : Int) = (E : Int) := by rw [IntKind.wrap_i64]; omega
    have ez : ¬ (E : Int) = 0 := by omega
    have tz : ¬ (T : Int) = 0 := by omega
    have z1 : ((T : Int) != (T : Int)) = false := by simp
    obtain ⟨I, hI⟩ : ∃ I, I = P % T := ⟨_, rfl⟩
    have hIT : I < T := by rw [hI]; exact Nat.mod_lt _ hT1
    have i1 : (P : Int).tmod (T : Int) = (I : Int) := by rw [Int.tmod_eq_emod_of_nonneg (by omega), hI]; simp
    have i2 : (P : Int) % (T : Int) = (I : Int) := by rw [hI]; simp
    obtain ⟨j, hj⟩ : ∃ j, j = I / E := ⟨_, rfl⟩
    obtain ⟨kk, hkk⟩ : ∃ kk, kk = I % E := ⟨_, rfl⟩
    have hkE : kk < E := by rw [hkk]; exact Nat.mod_lt _ hE0
    have hjn : j < n := by rw [hj, Nat.div_lt_iff_lt_mul hE0, Nat.mul_comm, ← hT]; exact hIT
    have j1 : (I : Int).tdiv (E : Int) = (j : Int) := by rw [Int.tdiv_eq_ediv_of_nonneg (by omega), hj]; simp
    have j2 : (I : Int) / (E : Int) = (j : Int) := by rw [hj]; simp
    have m1 : (I : Int).tmod (E : Int) = (kk : Int) := by rw [Int.tmod_eq_emod_of_nonneg (by omega), hkk]; simp
    have m2 : (I : Int) % (E : Int) = (kk : Int) := by rw [hkk]; simp
    have hIj : I = j * E + kk := by rw [hj, hkk, Nat.mul_comm]; exact (Nat.div_add_mod I E).symm
    obtain ⟨x, hx⟩ : ∃ x, x = (xs.getD j 0).toNat := ⟨_, rfl⟩
    have hx256 : x < 256 := by rw [hx]; exact UInt8.toNat_lt _
    obtain ⟨d, hdd⟩ : ∃ d, d = dg v x kk := ⟨_, rfl⟩
    have hd : D[I]? = some d := by rw [hIj, hdd, hx, hD, hE]; exact ofL_pos v HV.out xs j kk (by rw [HL.out]; exact hjn) (by rw [← hE]; exact hkE)
    have HD := Lib.hid (show D.getD I 0 = d by simp [List.getD, hd])
    obtain ⟨G, hG⟩ : ∃ G, G = E - 1 - kk := ⟨_, rfl⟩
    have g1 : (E : Int) - 1 - (kk : Int) = (G : Int) := by omega
    obtain ⟨sh, hsh⟩ : ∃ sh, sh = v * G := ⟨_, rfl⟩
    have hsh8 : sh = 8 - v * (kk + 1) := by
      rw [hsh, hG, show E - 1 - kk = E - (kk + 1) by omega, Nat.mul_sub, hE, h8]
    have hsh7 : sh ≤ 7 := by
      have : v * 1 ≤ v * (kk + 1) := Nat.mul_le_mul_left _ (by omega)
      omega
    have g2 : (v : Int) * (G : Int) = (sh : Int) := by rw [hsh, Int.natCast_mul]
    have g3 : IntKind.i64.wrap (sh : Int) = (sh : Int) := by rw [IntKind.wrap_i64]; omega
    obtain ⟨O, hO⟩ : ∃ O, O = 2 ^ sh := ⟨_, rfl⟩
    have hO1 : O ≤ 128 := by rw [hO]; exact Nat.le_trans (Nat.pow_le_pow_right (by omega) hsh7) (by decide)
    have o1 : (2 : Int) ^ sh = (O : Int) := by rw [hO]; simp
    obtain ⟨S, hS⟩ : ∃ S, S = 2 ^ v := ⟨_, rfl⟩
    have hS0 : 2 ≤ S := by rw [hS]; rcases HV.out with h | h | h | h <;> subst h <;> decide
    have hS1 : S ≤ 256 := by rw [hS]; rcases HV.out with h | h | h | h <;> subst h <;> decide
    have s1 : (2 : Int) ^ v = (S : Int) := by rw [hS]; simp
    obtain ⟨S1, hS2⟩ : ∃ S1, S1 = S - 1 := ⟨_, rfl⟩
    have s2 : (S : Int) - 1 = (S1 : Int) := by omega
    have HLO := Lib.hid (fun h => lk_low v kk HV.out (by rw [← hE]; exact hkE) xs j (by rw [HL.out]; exact hjn) h)
    have HUP := Lib.hid (fun h => lk_up v kk HV.out (by rw [← hE]; exact hkE) xs j (by rw [HL.out]; exact hjn) h)
    rw [← hx, ← hdd, ← hsh8, ← hO, ← hS, ← hS2, ← hD, ← hK] at HLO HUP
    have HX := Lib.hid hx
    have HXL := Lib.hid (show x = (xs[j]'(by rw [HL.out]; exact hjn)).toNat by rw [hx]; simp [List.getD, HL.out, hjn])
    clear hE hD hT hK h8 hI hj hkk hIj hx hdd hd hG hsh hsh8 hO hS
    by_cases hlow : d = S1
    · obtain ⟨l1, l2⟩ := HLO.out hlow
      have y1 : ((d : Int) == (S1 : Int)) = true := by simp [hlow]
      obtain ⟨y, hy⟩ : ∃ y, y = UInt8.ofNat (x - O) := ⟨_, rfl⟩
      have hyn : y.toNat = x - O := by rw [hy]; exact toNat_of (by omega)
      rw [← hy] at l2
      have y2 : (x : Int) - (O : Int) = (y.toNat : Int) := by omega
      have HY := Lib.hid (show ∀ Z B d', M.ok Z → Rd Z B n d' (xs.set j y) → Calls Tryd.prog 16 #[.slice B n d', .int .i64 (v : Int)] Z fun e w' => e = .returned (.int .i64 ((K : Int) + 1)) ∧ Below Z.heap.size Z w' from fun Z B d' g h => by
        have h9 := M.lack B n d' _ v Z g h (by omega)
        rw [lackW, may_wid HV.out, if_pos rfl, Int.toNat_natCast, l2] at h9
        exact h9)
      have y3 : y.toNat < 256 := y.toNat_lt
      have hOx : (O : Int) ≤ (x : Int) := by omega
      clear hlow l1 l2 hy hyn HLO HUP hS2
      go_enter Tryd.func7, Tryd.ntmps7
      go_wp2_with (first
        | (go_at_call 8; ((with_reducible refine (awake_true M _ HK.out).mono ?_); rintro e w1 ⟨rfl, b1⟩; have B1 := Lib.hid b1; clear b1))
        | (go_at_call 14; ((with_reducible refine (HO.out _ (M.bel HK.out (B1.out.alloc B1.out.size _)) (HR.out.below (B1.out.alloc B1.out.size _))).mono ?_); intro e w2 h2; obtain ⟨A2, c2, rfl, r2, b2⟩ := h2; rw [LD.out] at r2; rw [LD.out]; have R2 := Lib.hid r2; have B2 := Lib.hid ((B1.out.alloc B1.out.size _).trans (b2.mono (by have := B1.out.size; simp; omega))); clear r2 b2))
        | (at_builtin; refine append_rd rfl (.tmp 51) (.tmp 52) rfl w2.heap.size (.slice (some ⟨w2.heap.size, 0, none⟩) 0 0) 0 [] rfl (own_lit8 w2 w2.heap.size [] (Nat.le_refl _) (by simp [maxLen])) A n c xs rfl ((HR.out.below B2.out).alloc _) (by omega) (by simp) ?_; intro v3 w3 o3 g3'; have B3 := Lib.hid ((B2.out.alloc B2.out.size _).grown g3' (by have := B2.out.size; simp; omega) (fun k hk => by have := B2.out.size; simp [Value.ownBlock] at hk; omega)); have o3' := own_ns (show w3.ownsRow w2.heap.size 5 1 v3 (0 + n) (bv ([] ++ xs)) from o3); have R3 := Lib.hid (R2.out.below (((Below.refl _ _).alloc (Nat.le_refl _) _).grown g3' (by simp) (fun k hk => by simp [Value.ownBlock] at hk; omega))); obtain ⟨A3, c3, rfl⟩ := own_form o3'; obtain ⟨b4, cap4, hv4, hb4, hlt4⟩ := o3'.form (by omega); injection hv4 with hA4 _ hc4; subst hA4; have O3 := Lib.hid o3'; clear o3 o3' g3' hc4; obtain ⟨b5, o5, rfl, hb5, hcell5⟩ := R3.out.at_ (by omega); have hc5 := hcell5 I hIT; rw [HD.out] at hc5; clear hcell5))
      have zl := own_len O3.out
      have hc4 := O3.out.cellAt j (by omega)
      have hf4 := O3.out.frozenAt j
      have hs4 := O3.out.stored j
      rw [bv_at _ _ (by omega), ← HXL.out] at hc4
      have y4 : IntKind.u8.wrap ((x : Int) - (O : Int)) = (y.toNat : Int) := by rw [y2, IntKind.wrap_u8']; omega
      have je : IntKind.i64.wrap (j : Int) = (j : Int) := by rw [IntKind.wrap_i64]; omega
      have HS4 := Lib.hid (hs4 (.int .u8 (y.toNat : Int)))
      clear zl hs4
      have BS := Lib.hid (show Below W.heap.size W (w3.setCell ⟨b4, j, none⟩ (.int .u8 (y.toNat : Int))).drew from (B3.out.setCell (by have := B2.out.size; simp; omega) _).drew)
      have RY := Lib.hid (show Rd (w3.setCell ⟨b4, j, none⟩ (.int .u8 (y.toNat : Int))).drew (some ⟨b4, 0, none⟩) n c3 (xs.set j y) from (Rd.own (by rw [← bv_set]; exact HS4.out.1)).drew)
      have z9 : (((K : Int) + 1) == ((K : Int) + 1)) = true := by simp
      go_region
      go_wp2_with (first
        | (go_at_call 16; ((with_reducible refine (HY.out _ _ _ (M.bel HK.out BS.out) RY.out).mono ?_); rintro e w6 ⟨rfl, b6⟩; have B6 := Lib.hid (BS.out.trans (b6.mono BS.out.size)); clear b6))
        | (go_at_call 16; ((with_reducible refine (HLB.out w6 (M.bel HK.out B6.out) (HR.out.below B6.out)).mono ?_); rintro e w7 ⟨rfl, b7⟩; have B7 := Lib.hid (B6.out.trans (b7.mono B6.out.size)); clear b7)))
      go_ret
      exact ⟨rfl, B7.out⟩
    · obtain ⟨l1, l2⟩ := HUP.out hlow
      have y1 : ((d : Int) == (S1 : Int)) = false := by simp; omega
      obtain ⟨y, hy⟩ : ∃ y, y = UInt8.ofNat (x + O) := ⟨_, rfl⟩
      have hyn : y.toNat = x + O := by rw [hy]; exact toNat_of l1
      rw [← hy] at l2
      have y2 : (x : Int) + (O : Int) = (y.toNat : Int) := by omega
      obtain ⟨K1, hK1⟩ : ∃ K1, K1 = lk v (ofL v (xs.set j y)) := ⟨_, rfl⟩
      rw [← hK1] at l2
      have k9 : (K : Int) - 1 = (K1 : Int) := by omega
      have HY := Lib.hid (show ∀ Z B d', M.ok Z → Rd Z B n d' (xs.set j y) → Calls Tryd.prog 16 #[.slice B n d', .int .i64 (v : Int)] Z fun e w' => e = .returned (.int .i64 (K1 : Int)) ∧ Below Z.heap.size Z w' from fun Z B d' g h => by
        have h9 := M.lack B n d' _ v Z g h (by omega)
        rw [lackW, may_wid HV.out, if_pos rfl, Int.toNat_natCast, ← hK1] at h9
        exact h9)
      have y3 : y.toNat < 256 := y.toNat_lt
      have hOx : (x : Int) + (O : Int) < 256 := by omega
      clear hlow l1 l2 hy hyn HLO HUP hS2 hK1
      go_enter Tryd.func7, Tryd.ntmps7
      go_wp2_with (first
        | (go_at_call 8; ((with_reducible refine (awake_true M _ HK.out).mono ?_); rintro e w1 ⟨rfl, b1⟩; have B1 := Lib.hid b1; clear b1))
        | (go_at_call 14; ((with_reducible refine (HO.out _ (M.bel HK.out (B1.out.alloc B1.out.size _)) (HR.out.below (B1.out.alloc B1.out.size _))).mono ?_); intro e w2 h2; obtain ⟨A2, c2, rfl, r2, b2⟩ := h2; rw [LD.out] at r2; rw [LD.out]; have R2 := Lib.hid r2; have B2 := Lib.hid ((B1.out.alloc B1.out.size _).trans (b2.mono (by have := B1.out.size; simp; omega))); clear r2 b2))
        | (at_builtin; refine append_rd rfl (.tmp 51) (.tmp 52) rfl w2.heap.size (.slice (some ⟨w2.heap.size, 0, none⟩) 0 0) 0 [] rfl (own_lit8 w2 w2.heap.size [] (Nat.le_refl _) (by simp [maxLen])) A n c xs rfl ((HR.out.below B2.out).alloc _) (by omega) (by simp) ?_; intro v3 w3 o3 g3'; have B3 := Lib.hid ((B2.out.alloc B2.out.size _).grown g3' (by have := B2.out.size; simp; omega) (fun k hk => by have := B2.out.size; simp [Value.ownBlock] at hk; omega)); have o3' := own_ns (show w3.ownsRow w2.heap.size 5 1 v3 (0 + n) (bv ([] ++ xs)) from o3); have R3 := Lib.hid (R2.out.below (((Below.refl _ _).alloc (Nat.le_refl _) _).grown g3' (by simp) (fun k hk => by simp [Value.ownBlock] at hk; omega))); obtain ⟨A3, c3, rfl⟩ := own_form o3'; obtain ⟨b4, cap4, hv4, hb4, hlt4⟩ := o3'.form (by omega); injection hv4 with hA4 _ hc4; subst hA4; have O3 := Lib.hid o3'; clear o3 o3' g3' hc4; obtain ⟨b5, o5, rfl, hb5, hcell5⟩ := R3.out.at_ (by omega); have hc5 := hcell5 I hIT; rw [HD.out] at hc5; clear hcell5))
      have zl := own_len O3.out
      have hc4 := O3.out.cellAt j (by omega)
      have hf4 := O3.out.frozenAt j
      have hs4 := O3.out.stored j
      rw [bv_at _ _ (by omega), ← HXL.out] at hc4
      have y4 : IntKind.u8.wrap ((x : Int) + (O : Int)) = (y.toNat : Int) := by rw [y2, IntKind.wrap_u8']; omega
      have je : IntKind.i64.wrap (j : Int) = (j : Int) := by rw [IntKind.wrap_i64]; omega
      have HS4 := Lib.hid (hs4 (.int .u8 (y.toNat : Int)))
      clear zl hs4
      have BS := Lib.hid (show Below W.heap.size W (w3.setCell ⟨b4, j, none⟩ (.int .u8 (y.toNat : Int))).drew from (B3.out.setCell (by have := B2.out.size; simp; omega) _).drew)
      have RY := Lib.hid (show Rd (w3.setCell ⟨b4, j, none⟩ (.int .u8 (y.toNat : Int))).drew (some ⟨b4, 0, none⟩) n c3 (xs.set j y) from (Rd.own (by rw [← bv_set]; exact HS4.out.1)).drew)
      have z9 : ((K1 : Int) == (K1 : Int)) = true := by simp
      go_region
      go_wp2_with (first
        | (go_at_call 16; ((with_reducible refine (HY.out _ _ _ (M.bel HK.out BS.out) RY.out).mono ?_); rintro e w6 ⟨rfl, b6⟩; have B6 := Lib.hid (BS.out.trans (b6.mono BS.out.size)); clear b6))
        | (go_at_call 16; ((with_reducible refine (HLB.out w6 (M.bel HK.out B6.out) (HR.out.below B6.out)).mono ?_); rintro e w7 ⟨rfl, b7⟩; have B7 := Lib.hid (B6.out.trans (b7.mono B6.out.size)); clear b7)))
      go_ret
      exact ⟨rfl, B7.out⟩
end Go.Proofs.YtfhbnfhmicaklaaDoor.S7
