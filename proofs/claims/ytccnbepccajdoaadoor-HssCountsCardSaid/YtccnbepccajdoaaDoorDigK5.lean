/-
  What the landed digits' Shape does. No statement is proved here.
-/
import Derived.Test.YtccnbepccajdoaaDoorDigK1
import Derived.Test.YtccnbepccajdoaaDoorDigP
namespace Go.Proofs.YtccnbepccajdoaaDoor.S7
set_option linter.unusedSimpArgs false
set_option linter.unusedVariables false
set_option maxRecDepth 1024
open Go.RowKit

theorem shape_len (n v : Nat) (hv : wid v) (h0 : 1 ≤ n) (h1 : n ≤ 64) : (Lib.bitLen ((2 ^ v - 1) * shU n v) + v - 1) / v = shV n v := by
  have h : ∀ m, m < 65 → 1 ≤ m → ∀ w ∈ [1, 2, 4, 8], (Lib.bitLen ((2 ^ w - 1) * shU m w) + w - 1) / w = shV m w := by decide +kernel
  refine h n (by omega) h0 v ?_
  rcases hv with h | h | h | h <;> subst h <;> simp
theorem shape_none (n w : Int) (W : World) (hok : WOk W) (h : okS n w = false) :
    Calls Tryd.prog 50 #[.int .i64 n, .int .i64 w] W fun e w' => e = .returned (.tuple #[.int .i64 0, .int .i64 0, .int .i64 0]) ∧ W = w' := by
  by_cases h1 : n < 1
  · have q1 : decide (n < 1) = true := by simpa using h1
    clear h
    go_enter Tryd.func50, Tryd.ntmps50
    go_wp2
    go_ret3
    exact ⟨rfl, rfl⟩
  · by_cases h2 : 64 < n
    · have q1 : decide (n < 1) = false := by simpa using h1
      have q2 : decide (64 < n) = true := by simpa using h2
      clear h
      go_enter Tryd.func50, Tryd.ntmps50
      go_wp2
      go_ret3
      exact ⟨rfl, rfl⟩
    · have q1 : decide (n < 1) = false := by simpa using h1
      have q2 : decide (64 < n) = false := by simpa using h2
      have hm : mayB w = false := by
        cases hc : mayB w with
        | false => rfl
        | true => simp [okS, hc] at h; omega
      have HM := Lib.hid (may_any w W hok)
      rw [hm] at HM
      clear h hm hok
      go_enter Tryd.func50, Tryd.ntmps50
      go_wp2_with (go_at_call 53; ((with_reducible refine HM.out.mono ?_); rintro e w2 ⟨rfl, rfl⟩))
      go_ret3
      exact ⟨rfl, rfl⟩
theorem shape_any (n v : Nat) (W : World) (hok : WOk W) (h0 : 1 ≤ n) (h1 : n ≤ 64) (hv : wid v) :
    Calls Tryd.prog 50 #[.int .i64 (n : Int), .int .i64 (v : Int)] W fun e w' => e = .returned (.tuple #[.int .i64 ((shU n v : Nat) : Int), .int .i64 ((shV n v : Nat) : Int), .int .i64 ((shL n v : Nat) : Int)]) ∧ W = w' := by
  have HM := Lib.hid (may_any v W hok)
  rw [may_wid hv] at HM
  have hg := fun X => great_any v hv X
  obtain ⟨h8, hv1, hv8⟩ := wid_div hv
  obtain ⟨f1, f2, f3, f4, _⟩ := shape_facts n v hv h0 h1
  have hVb := shape_len n v hv h0 h1
  obtain ⟨U, hU⟩ : ∃ U, U = shU n v := ⟨_, rfl⟩
  obtain ⟨V, hV⟩ : ∃ V, V = shV n v := ⟨_, rfl⟩
  have hUb : U ≤ 512 := by
    have : n * (8 / v) ≤ n * 8 := Nat.mul_le_mul_left _ (Nat.div_le_self _ _)
    omega
  have hVL : shL n v = 16 - V * v := by rw [hV]; rfl
  have hV16 : V * v ≤ 16 := by rw [hV, Nat.mul_comm]; exact f2
  have HVL := Lib.hid hVL
  have u1 : (8 * (n : Int)) / (v : Int) = (U : Int) := by rw [hU]; unfold shU; simp
  have u2 : (8 * (n : Int)).tdiv (v : Int) = (U : Int) := by rw [Int.tdiv_eq_ediv_of_nonneg (by omega)]; exact u1
  rw [← hU] at f1 hVb
  rw [← hV] at hVb
  obtain ⟨G, hG⟩ : ∃ G, G = 2 ^ v - 1 := ⟨_, rfl⟩
  have hGb : G ≤ 255 := by rw [hG]; rcases hv with h | h | h | h <;> subst h <;> decide
  rw [← hG] at hg hVb
  obtain ⟨X, hX⟩ : ∃ X, X = G * U := ⟨_, rfl⟩
  have hX1 : X < 65536 := by
    rw [hX, hG, hU]
    refine Nat.lt_of_lt_of_le (by rw [← hU]; exact f1) ?_
    exact Nat.le_trans (Nat.pow_le_pow_right (by omega) f2) (by decide)
  rw [← hX] at hVb
  have HLN := Lib.hid (fun W => len_any X hX1 W)
  obtain ⟨B, hB⟩ : ∃ B, B = Lib.bitLen X := ⟨_, rfl⟩
  have hB9 : B ≤ 64 := by
    apply Classical.byContradiction
    intro h9
    have : (B + v - 1) / v = V := by rw [hB]; exact hVb
    have h8 : 64 / v * v ≤ 64 := Nat.div_mul_le_self _ _
    have h7 : (B + v - 1) / v * v + v > B + v - 1 := by
      have := Nat.lt_div_mul_add (a := B + v - 1) (b := v) (by omega)
      omega
    rw [this] at h7
    omega
  rw [← hB] at HLN hVb
  have x1 : (G : Int) * (U : Int) = (X : Int) := by rw [hX]; simp
  have d1 : ((B : Int) + (v : Int) - 1) / (v : Int) = (V : Int) := by
    have e : ((B + v - 1 : Nat) : Int) = (B : Int) + (v : Int) - 1 := by omega
    rw [← hVb, Int.natCast_ediv, e]
  have d2 : ((B : Int) + (v : Int) - 1).tdiv (v : Int) = (V : Int) := by rw [Int.tdiv_eq_ediv_of_nonneg (by omega)]; exact d1
  have HG := Lib.hid hg
  rw [← hU, ← hV, HVL.out]
  clear hU hV hVL hv h8 f1 f2 f3 f4 hX hG hB hVb hok hg
  have q1 : decide ((n : Int) < 1) = false := by simp; omega
  have q2 : decide (64 < (n : Int)) = false := by simp; omega
  have vz : ¬ (v : Int) = 0 := by omega
  have e8 : IntKind.i64.wrap (8 * (n : Int)) = 8 * (n : Int) := by rw [IntKind.wrap_i64]; omega
  have eU : IntKind.i64.wrap (U : Int) = (U : Int) := by rw [IntKind.wrap_i64]; omega
  have eX : IntKind.i64.wrap (X : Int) = (X : Int) := by rw [IntKind.wrap_i64]; omega
  have eX2 : IntKind.u64.wrap (X : Int) = (X : Int) := by rw [IntKind.wrap_u64]; omega
  have b1 : IntKind.i64.wrap ((B : Int) + (v : Int)) = (B : Int) + (v : Int) := by rw [IntKind.wrap_i64]; omega
  have b2 : IntKind.i64.wrap ((B : Int) + (v : Int) - 1) = (B : Int) + (v : Int) - 1 := by rw [IntKind.wrap_i64]; omega
  have hVs : V ≤ 16 := by
    have : V * 1 ≤ V * v := Nat.mul_le_mul_left _ hv1
    omega
  have eV : IntKind.i64.wrap (V : Int) = (V : Int) := by rw [IntKind.wrap_i64]; omega
  obtain ⟨KV, hKV⟩ : ∃ KV, KV = V * v := ⟨_, rfl⟩
  have kv : (V : Int) * (v : Int) = ((KV : Nat) : Int) := by rw [hKV]; simp
  rw [← hKV] at hV16 ⊢
  have l1 : IntKind.i64.wrap (KV : Int) = (KV : Int) := by rw [IntKind.wrap_i64]; omega
  have l2 : IntKind.i64.wrap (16 - (KV : Int)) = 16 - (KV : Int) := by rw [IntKind.wrap_i64]; omega
  have HE := Lib.hid (show ((16 - KV : Nat) : Int) = 16 - (KV : Int) by omega)
  clear hKV
  go_enter Tryd.func50, Tryd.ntmps50
  go_wp2_with (first
    | (go_at_call 53; ((with_reducible refine HM.out.mono ?_); rintro e w2 ⟨rfl, rfl⟩))
    | (go_at_call 54; ((with_reducible refine (HG.out _).mono ?_); rintro e w2 ⟨rfl, rfl⟩))
    | (go_at_call 55; ((with_reducible refine (HLN.out _).mono ?_); rintro e w2 ⟨rfl, rfl⟩)))
  go_ret3
  exact ⟨by rw [HE.out]; rfl, rfl⟩
theorem shapeW (n w : Int) (W : World) (hok : WOk W) :
    Calls Tryd.prog 50 #[.int .i64 n, .int .i64 w] W fun e w' => e = .returned (.tuple #[.int .i64 (((shW n w).1 : Nat) : Int), .int .i64 (((shW n w).2.1 : Nat) : Int), .int .i64 (((shW n w).2.2 : Nat) : Int)]) ∧ W = w' := by
  by_cases hc : okS n w = true
  · obtain ⟨m, v, rfl, rfl, h0, h1, hv⟩ := okS_of hc
    rw [shW, if_pos hc]
    exact shape_any m v W hok h0 h1 hv
  · rw [shW, if_neg hc]
    exact shape_none n w W hok (by simpa using hc)
end Go.Proofs.YtccnbepccajdoaaDoor.S7
