/-
  Texts put together: DigK5, DigK6, DigM, WpK1, Steady. No statement is proved here.
-/
import Derived.Test.YtkpfppiedadmbaaGreatDoorWo17
import Derived.Test.YtkpfppiedadmbaaGreatDoorWo02
import Derived.Test.YtkpfppiedadmbaaGreatDoorWo10
import Derived.Test.YtkpfppiedadmbaaGreatDoorWo16
import Derived.Test.YtkpfppiedadmbaaGreatDoorRows
import Derived.StillTail
import Derived.Tactics
import Derived.WalkKit
import Derived.Deep.MidRow

/-
  What the landed digits' Shape does. No statement is proved here.
-/
namespace Go.Proofs.YtkpfppiedadmbaaGreatDoor.S7
set_option linter.unusedSimpArgs false
set_option linter.unusedVariables false
set_option maxRecDepth 1024
open Go.RowKit

theorem shape_len (n v : Nat) (hv : wid v) (h0 : 1 ≤ n) (h1 : n ≤ 64) : (Lib.bitLen ((2 ^ v - 1) * shU n v) + v - 1) / v = shV n v := by
  have h : ∀ m, m < 65 → 1 ≤ m → ∀ w ∈ [1, 2, 4, 8], (Lib.bitLen ((2 ^ w - 1) * shU m w) + w - 1) / w = shV m w := by decide +kernel
  refine h n (by omega) h0 v ?_
  rcases hv with h | h | h | h <;> subst h <;> simp
theorem shape_none (n w : Int) (W : World) (hok : WOk W) (h : okS n w = false) :
    Calls Tryz.prog 82 #[.int .i64 n, .int .i64 w] W fun e w' => e = .returned (.tuple #[.int .i64 0, .int .i64 0, .int .i64 0]) ∧ W = w' := by
  by_cases h1 : n < 1
  · have q1 : decide (n < 1) = true := by simpa using h1
    clear h
    go_enter Tryz.func82, Tryz.ntmps82
    go_wp2
    go_ret3
    exact ⟨rfl, rfl⟩
  · by_cases h2 : 64 < n
    · have q1 : decide (n < 1) = false := by simpa using h1
      have q2 : decide (64 < n) = true := by simpa using h2
      clear h
      go_enter Tryz.func82, Tryz.ntmps82
      go_wp2
      go_ret3
      exact ⟨rfl, rfl⟩
    · have q1 : decide (n < 1) = false := by simpa using h1
      have q2 : decide (64 < n) = false := by simpa using h2
      have hm : mayB w = false := by
        cases hc : mayB w with
        | false => rfl
        | true => simp [okS, hc] at h; omega
      have HM := Lib.hid (may_any w W hok)
      rw [hm] at HM
      clear h hm hok
      go_enter Tryz.func82, Tryz.ntmps82
      go_wp2_with (go_at_call 106; ((with_reducible refine HM.out.mono ?_); rintro e w2 ⟨rfl, rfl⟩))
      go_ret3
      exact ⟨rfl, rfl⟩
theorem shape_any (n v : Nat) (W : World) (hok : WOk W) (h0 : 1 ≤ n) (h1 : n ≤ 64) (hv : wid v) :
    Calls Tryz.prog 82 #[.int .i64 (n : Int), .int .i64 (v : Int)] W fun e w' => e = .returned (.tuple #[.int .i64 ((shU n v : Nat) : Int), .int .i64 ((shV n v : Nat) : Int), .int .i64 ((shL n v : Nat) : Int)]) ∧ W = w' := by
  have HM := Lib.hid (may_any v W hok)
  rw [may_wid hv] at HM
  have hg := fun X => great_any v hv X
  obtain ⟨h8, hv1, hv8⟩ := wid_div hv
  obtain ⟨f1, f2, f3, f4, _⟩ := shape_facts n v hv h0 h1
  have hVb := shape_len n v hv h0 h1
  obtain ⟨U, hU⟩ : ∃ U, U = shU n v := ⟨_, rfl⟩
  obtain ⟨V, hV⟩ : ∃ V, V = shV n v := ⟨_, rfl⟩
  have hUb : U ≤ 512 := by
    have : n * (8 / v) ≤ n * 8 := Nat.mul_le_mul_left _ (Nat.div_le_self _ _)
    omega
  have hVL : shL n v = 16 - V * v := by rw [hV]; rfl
  have hV16 : V * v ≤ 16 := by rw [hV, Nat.mul_comm]; exact f2
  have HVL := Lib.hid hVL
  have u1 : (8 * (n : Int)) / (v : Int) = (U : Int) := by rw [hU]; unfold shU; simp
  have u2 : (8 * (n : Int)).tdiv (v : Int) = (U : Int) := by rw [Int.tdiv_eq_ediv_of_nonneg (by omega)]; exact u1
  rw [← hU] at f1 hVb
  rw [← hV] at hVb
  obtain ⟨G, hG⟩ : ∃ G, G = 2 ^ v - 1 := ⟨_, rfl⟩
  have hGb : G ≤ 255 := by rw [hG]; rcases hv with h | h | h | h <;> subst h <;> decide
  rw [← hG] at hg hVb
  obtain ⟨X, hX⟩ : ∃ X, X = G * U := ⟨_, rfl⟩
  have hX1 : X < 65536 := by
    rw [hX, hG, hU]
    refine Nat.lt_of_lt_of_le (by rw [← hU]; exact f1) ?_
    exact Nat.le_trans (Nat.pow_le_pow_right (by omega) f2) (by decide)
  rw [← hX] at hVb
  have HLN := Lib.hid (fun W => len_any X hX1 W)
  obtain ⟨B, hB⟩ : ∃ B, B = Lib.bitLen X := ⟨_, rfl⟩
  have hB9 : B ≤ 64 := by
    apply Classical.byContradiction
    intro h9
    have : (B + v - 1) / v = V := by rw [hB]; exact hVb
    have h8 : 64 / v * v ≤ 64 := Nat.div_mul_le_self _ _
    have h7 : (B + v - 1) / v * v + v > B + v - 1 := by
      have := Nat.lt_div_mul_add (a := B + v - 1) (b := v) (by omega)
      omega
    rw [this] at h7
    omega
  rw [← hB] at HLN hVb
  have x1 : (G : Int) * (U : Int) = (X : Int) := by rw [hX]; simp
  have d1 : ((B : Int) + (v : Int) - 1) / (v : Int) = (V : Int) := by
    have e : ((B + v - 1 : Nat) : Int) = (B : Int) + (v : Int) - 1 := by omega
    rw [← hVb, Int.natCast_ediv, e]
  have d2 : ((B : Int) + (v : Int) - 1).tdiv (v : Int) = (V : Int) := by rw [Int.tdiv_eq_ediv_of_nonneg (by omega)]; exact d1
  have HG := Lib.hid hg
  rw [← hU, ← hV, HVL.out]
  clear hU hV hVL hv h8 f1 f2 f3 f4 hX hG hB hVb hok hg
  have q1 : decide ((n : Int) < 1) = false := by simp; omega
  have q2 : decide (64 < (n : Int)) = false := by simp; omega
  have vz : ¬ (v : Int) = 0 := by omega
  have e8 : IntKind.i64.wrap (8 * (n : Int)) = 8 * (n : Int) := by rw [IntKind.wrap_i64]; omega
  have eU : IntKind.i64.wrap (U : Int) = (U : Int) := by rw [IntKind.wrap_i64]; omega
  have eX : IntKind.i64.wrap (X : Int) = (X : Int) := by rw [IntKind.wrap_i64]; omega
  have eX2 : IntKind.u64.wrap (X : Int) = (X : Int) := by rw [IntKind.wrap_u64]; omega
  have b1 : IntKind.i64.wrap ((B : Int) + (v : Int)) = (B : Int) + (v : Int) := by rw [IntKind.wrap_i64]; omega
  have b2 : IntKind.i64.wrap ((B : Int) + (v : Int) - 1) = (B : Int) + (v : Int) - 1 := by rw [IntKind.wrap_i64]; omega
  have hVs : V ≤ 16 := by
    have : V * 1 ≤ V * v := Nat.mul_le_mul_left _ hv1
    omega
  have eV : IntKind.i64.wrap (V : Int) = (V : Int) := by rw [IntKind.wrap_i64]; omega
  obtain ⟨KV, hKV⟩ : ∃ KV, KV = V * v := ⟨_, rfl⟩
  have kv : (V : Int) * (v : Int) = ((KV : Nat) : Int) := by rw [hKV]; simp
  rw [← hKV] at hV16 ⊢
  have l1 : IntKind.i64.wrap (KV : Int) = (KV : Int) := by rw [IntKind.wrap_i64]; omega
  have l2 : IntKind.i64.wrap (16 - (KV : Int)) = 16 - (KV : Int) := by rw [IntKind.wrap_i64]; omega
  have HE := Lib.hid (show ((16 - KV : Nat) : Int) = 16 - (KV : Int) by omega)
  clear hKV
  go_enter Tryz.func82, Tryz.ntmps82
  go_wp2_with (first
    | (go_at_call 106; ((with_reducible refine HM.out.mono ?_); rintro e w2 ⟨rfl, rfl⟩))
    | (go_at_call 107; ((with_reducible refine (HG.out _).mono ?_); rintro e w2 ⟨rfl, rfl⟩))
    | (go_at_call 108; ((with_reducible refine (HLN.out _).mono ?_); rintro e w2 ⟨rfl, rfl⟩)))
  go_ret3
  exact ⟨by rw [HE.out]; rfl, rfl⟩
theorem shapeW (n w : Int) (W : World) (hok : WOk W) :
    Calls Tryz.prog 82 #[.int .i64 n, .int .i64 w] W fun e w' => e = .returned (.tuple #[.int .i64 (((shW n w).1 : Nat) : Int), .int .i64 (((shW n w).2.1 : Nat) : Int), .int .i64 (((shW n w).2.2 : Nat) : Int)]) ∧ W = w' := by
  by_cases hc : okS n w = true
  · obtain ⟨m, v, rfl, rfl, h0, h1, hv⟩ := okS_of hc
    rw [shW, if_pos hc]
    exact shape_any m v W hok h0 h1 hv
  · rw [shW, if_neg hc]
    exact shape_none n w W hok (by simpa using hc)
end Go.Proofs.YtkpfppiedadmbaaGreatDoor.S7

/-
  What the landed digits' All does. No statement is proved here.
-/
namespace Go.Proofs.YtkpfppiedadmbaaGreatDoor.S7
set_option linter.unusedSimpArgs false
set_option linter.unusedVariables false
set_option maxRecDepth 1024
open Go.RowKit

theorem all_none (A : Option Addr) (n c : Nat) (w : Int) (W : World) (hok : WOk W) (h : okS n w = false) (hm : n ≤ maxLen) :
    Calls Tryz.prog 59 #[.slice A n c, .int .i64 w] W fun e w' => e = .returned (.slice none 0 0) ∧ W = w' := by
  have HS := Lib.hid (shape_none n w W hok h)
  unfold maxLen at hm
  clear h hok
  go_enter Tryz.func59, Tryz.ntmps59
  go_wp2_with (go_at_call 82; ((with_reducible refine HS.out.mono ?_); rintro e w2 ⟨rfl, rfl⟩))
  go_ret
  exact ⟨rfl, rfl⟩
theorem own_belowD {w w' : World} {B e size n : Nat} {v : Value} {xs : List Value} (h : w.ownsRow B e size v n xs) (hb : Below w.heap.size w w') : w'.ownsRow B e size v n xs := by
  refine ⟨h.1, ?_⟩
  rcases h.2 with h | ⟨g, cap, cur, h1, h2, h3, h4⟩
  · exact .inl h
  · exact .inr ⟨g, cap, cur, h1, h2, (hb.block g (Array.getElem?_eq_some_iff.1 h3).1).trans h3, h4⟩
theorem of_wid (v : Nat) (hv : wid v) (xs : List UInt8) : ofW (v : Int) xs = ofL v xs := by rw [ofW, may_wid hv, if_pos rfl, Int.toNat_natCast]
set_option maxHeartbeats 2000000 in
theorem all_any (A : Option Addr) (n c : Nat) (xs : List UInt8) (v : Nat) (W : World) (hok : WOk W) (hr : Rd W A n c xs) (hv : wid v) (h0 : 1 ≤ n) (h1 : n ≤ 64) :
    Calls Tryz.prog 59 #[.slice A n c, .int .i64 (v : Int)] W (NewI W.heap.size W (allL v xs)) := by
  have hl := hr.len
  obtain ⟨k1, k2, k3⟩ := lack_val v hv xs (by omega) (by omega)
  have hS := shape_any n v W hok h0 h1 hv
  have hLK := lack_any A n c xs v W hok hr (by omega)
  have hOF := fun X (o : WOk X) h => of_new A n c xs v X o h (by omega)
  rw [of_wid v hv, Int.toNat_natCast] at hLK
  rw [of_wid v hv] at hOF
  obtain ⟨_, _, f3, f4, _⟩ := shape_facts n v hv h0 h1
  have hw8 := wid_div hv
  obtain ⟨U, hU⟩ : ∃ U, U = shU n v := ⟨_, rfl⟩
  obtain ⟨V, hV⟩ : ∃ V, V = shV n v := ⟨_, rfl⟩
  obtain ⟨L, hL⟩ : ∃ L, L = shL n v := ⟨_, rfl⟩
  obtain ⟨X0, hX0⟩ : ∃ X0, X0 = lk v (ofL v xs) := ⟨_, rfl⟩
  have hU1 : 1 ≤ U := by
    rw [hU, f4]
    have : 1 ≤ 8 / v := by rcases hv with h | h | h | h <;> subst h <;> decide
    exact Nat.le_trans this (Nat.le_mul_of_pos_left _ h0)
  obtain ⟨N, hN⟩ : ∃ N, N = X0 * 2 ^ L := ⟨_, rfl⟩
  have hN6 : N < 65536 := by rw [hN, hX0, hL, ← hl]; exact k1
  have hX6 : X0 ≤ N := by rw [hN]; exact Nat.le_mul_of_pos_right _ (Nat.two_pow_pos _)
  have HAL := Lib.hid (show allL v xs = ofL v xs ++ (ofL v [UInt8.ofNat (N / 256), UInt8.ofNat N]).take V by rw [allL, hN, hX0, hV, hL, hl])
  have hO2 := fun X (o : WOk X) B d (h : Rd X B 2 d [UInt8.ofNat (N / 256), UInt8.ofNat N]) => of_new B 2 d _ v X o h (by omega)
  rw [of_wid v hv] at hO2
  have HO2 := Lib.hid hO2
  have HL2 := Lib.hid (show V ≤ (ofL v [UInt8.ofNat (N / 256), UInt8.ofNat N]).length by
    rw [ofL_length, hV, ← hl]
    refine Nat.le_trans k3 ?_
    show 16 / v ≤ 2 * (8 / v)
    rcases hv with h | h | h | h <;> subst h <;> decide)
  have hOL : (ofL v xs).length ≤ 1000 := by
    rw [ofL_length, hl]
    have : n * (8 / v) ≤ n * 8 := Nat.mul_le_mul_left _ (Nat.div_le_self _ _)
    omega
  have hV20 : V ≤ 16 := by
    have h9 := k3
    rw [hl, ← hV] at h9
    have : 16 / v ≤ 16 := Nat.div_le_self _ _
    omega
  rw [← hU, ← hV, ← hL] at hS
  have HSS := Lib.hid hS
  have HR := Lib.hid hr
  rw [← hX0] at hLK
  have HLK := Lib.hid hLK
  have HOF := Lib.hid hOF
  obtain ⟨ds, hds⟩ : ∃ ds, ds = ofL v xs := ⟨_, rfl⟩
  obtain ⟨es, hes⟩ : ∃ es, es = ofL v [UInt8.ofNat (N / 256), UInt8.ofNat N] := ⟨_, rfl⟩
  rw [← hes] at HO2 HL2
  rw [← hds] at HOF hOL
  rw [← hds, ← hes] at HAL
  rw [HAL.out]
  have hLb : L ≤ 16 := by rw [hL]; unfold shL; omega
  have n1 : (X0 : Int) * 2 ^ L = (N : Int) := by rw [hN]; simp
  have n2 : IntKind.u64.wrap (N : Int) = (N : Int) := by rw [IntKind.wrap_u64]; omega
  have n3 : IntKind.u64.wrap (X0 : Int) = (X0 : Int) := by rw [IntKind.wrap_u64]; omega
  have ep : putL N 2 = [UInt8.ofNat (N / 256), UInt8.ofNat N] := by simp [putL]
  have HPT := Lib.hid (show ∀ X : World, Calls Tryz.prog 27 #[.int .u64 (N : Int), .int .i64 2] X (New X.heap.size X [UInt8.ofNat (N / 256), UInt8.ofNat N]) from fun X => by rw [← ep]; exact put_any N 2 X (by omega) (by omega))
  have HOK := Lib.hid hok
  clear hS hU hV hL hX0 k1 k2 k3 hr hds hes f3 f4 hw8 hl hO2 hLK hOF hN ep hok hv
  have uz : ¬ (U : Int) = 0 := by omega
  go_enter Tryz.func59, Tryz.ntmps59
  go_wp2_with (first
    | (go_at_call 82; ((with_reducible refine HSS.out.mono ?_); rintro e w2 ⟨rfl, rfl⟩))
    | (go_at_call 83; ((with_reducible refine HLK.out.mono ?_); rintro e w1 ⟨rfl, b1⟩; have B1 := Lib.hid b1; clear b1))
    | (go_at_call 27; ((with_reducible refine (HPT.out _).mono ?_); rintro e w3 ⟨A3, n3, c3, rfl, o3, b3⟩; obtain rfl : n3 = 2 := (own_len o3).symm; have B3 := Lib.hid (B1.out.trans (b3.mono B1.out.size)); have R3 := Lib.hid (Rd.own o3); clear o3 b3))
    | (go_at_call 84; ((with_reducible refine (HOF.out _ (HOK.out.below B3.out) (HR.out.below B3.out)).mono ?_); intro e w4 h4; obtain ⟨A4, c4, rfl, r4, o4, b4⟩ := newi_len h4; have O4 := Lib.hid o4; have B4 := Lib.hid b4; have BB4 := Lib.hid (B3.out.trans (b4.mono B3.out.size)); clear h4 r4 o4 b4))
    | (go_at_call 84; ((with_reducible refine (HO2.out _ (HOK.out.below BB4.out) A3 c3 (R3.out.below B4.out)).mono ?_); intro e w5 h5; obtain ⟨A5, c5, rfl, r5, _, b5⟩ := newi_len h5; have R5 := Lib.hid r5; have B5 := Lib.hid b5; have O5 := Lib.hid (own_belowD O4.out b5); have hVc : V ≤ c5 := Nat.le_trans HL2.out r5.cap; have hcs := fun X => run_cutIH (A := A5) (n := es.length) (c := c5) (m := V) (h := (V : Int)) rfl hVc X; have hcs' := fun X => run_cutIHAt (A := A5) (n := es.length) (c := c5) (m := V) (h := (V : Int)) rfl hVc X; clear h5 r5 b5))
    | (at_builtin; refine append_ri (by rfl) (.tmp 28) (.tmp 33) (by rfl) w3.heap.size _ ds.length ds (by rfl) O5.out A5 V c5 (es.take V) (by rfl) (R5.out.take HL2.out) (by omega) ?hbase ?happ))
  case hbase => exact Nat.le_trans B4.out.size B5.out.size
  case happ =>
    intro v6 w6 o6 g6
    have O6 := Lib.hid o6
    have B6 := Lib.hid (show Below w3.heap.size w3 w6 from (B4.out.trans (B5.out.mono B4.out.size)).grown g6 (Nat.le_trans B4.out.size B5.out.size) (fun g hg => (O5.out.lt g hg).1))
    clear o6 g6
    go_wp2
    go_ret
    exact NewI.mk (own_basei O6.out B3.out.size) (B3.out.trans (B6.out.mono B3.out.size))
theorem allW_any (A : Option Addr) (n c : Nat) (xs : List UInt8) (w : Int) (W : World) (hok : WOk W) (hr : Rd W A n c xs) :
    Calls Tryz.prog 59 #[.slice A n c, .int .i64 w] W (GivesI W.heap.size W (allW w xs)) := by
  have hl := hr.len
  by_cases hc : okS (n : Int) w = true
  · obtain ⟨m, v, hm, rfl, h0, h1, hv⟩ := okS_of hc
    rw [allW, hl, hc, if_pos rfl, Int.toNat_natCast]
    exact (all_any A n c xs v W hok hr hv (by omega) (by omega)).mono fun e w' h => .of_new h
  · replace hc : okS (n : Int) w = false := by simpa using hc
    rw [allW, hl, hc, if_neg (by simp)]
    exact (all_none A n c w W hok hc (Nat.le_trans hr.cap hr.max)).mono fun e w' ⟨h1, h2⟩ => ⟨none, 0, h1, Ri.nil_ _, by rw [← h2]; exact Below.refl _ _⟩
end Go.Proofs.YtkpfppiedadmbaaGreatDoor.S7

/-
  The contracts of the landed package digits as one.
-/
namespace Go.Proofs.YtkpfppiedadmbaaGreatDoor.S7
set_option linter.unusedSimpArgs false
set_option linter.unusedVariables false
set_option maxRecDepth 1024
open Go.RowKit

theorem lackW_eq (w : Int) (xs : List UInt8) : lk w.toNat (ofW w xs) = lackW w xs := by
  unfold ofW lackW
  split
  · rfl
  · simp [lk]
/-- What the calls of the landed digits do. -/
def D0 : DC where
  ok := WOk
  bel := fun h hb => h.below hb
  may := fun w W h => (may_any w W h).mono fun e w' ⟨h1, h2⟩ => ⟨h1, by rw [← h2]; exact Below.refl _ _⟩
  of := fun A n c xs w W h hr hn => (of_new A n c xs w W h hr (by omega)).mono fun e w' h => .of_new h
  lack := fun A n c xs w W h hr hn => (lack_any A n c xs w W h hr (by omega)).mono fun e w' ⟨h1, h2⟩ => ⟨by rw [h1, lackW_eq], h2⟩
  shape := fun n w W h => (shapeW n w W h).mono fun e w' ⟨h1, h2⟩ => ⟨h1, by rw [← h2]; exact Below.refl _ _⟩
  all := fun A n c xs w W h hr hn => allW_any A n c xs w W h hr
end Go.Proofs.YtkpfppiedadmbaaGreatDoor.S7

/-
  The landed package adrs: numbers as bytes, one behind the other. No statement is proved here.
-/
namespace Go.Proofs.YtkpfppiedadmbaaGreatDoor.S15
set_option linter.unusedSimpArgs false
set_option linter.unusedVariables false
set_option maxRecDepth 1024
open Go.RowKit

/-- The tables of layers 2 and 7 lie in their variables. -/
structure GK (w : World) : Prop where
  s2 : S2.GOk w
  s7 : S7.WOk w
theorem GK.bel {w w' : World} (h : GK w) (hb : Below w.heap.size w w') : GK w' := ⟨h.1.below (Nat.le_refl _) hb, h.2.below hb⟩
/-- Numbers of 32 bits as cells. -/
def nums (xs : List Nat) : List Value := xs.map fun (x : Nat) => Value.int .u32 (x : Int)
/-- The first k of them as bytes. -/
def numsL (xs : List Nat) (k : Nat) : List UInt8 := ((xs.take k).map fun x => putL x 4).flatten
theorem numsL_succ (xs : List Nat) (k : Nat) (h : k < xs.length) : numsL xs (k + 1) = numsL xs k ++ putL (xs.getD k 0) 4 := by
  unfold numsL
  rw [List.take_add_one, List.getElem?_eq_getElem h, Option.toList_some, List.map_append, List.flatten_append]
  simp [List.getD, h]
theorem numsL_len (xs : List Nat) : ∀ k, k ≤ xs.length → (numsL xs k).length = 4 * k
  | 0, _ => by simp [numsL]
  | k + 1, h => by rw [numsL_succ xs k (by omega), List.length_append, numsL_len xs k (by omega), putL_length]; omega
theorem nums_at (xs : List Nat) (k : Nat) (h : k < xs.length) : (nums xs)[k]? = some (.int .u32 ((xs.getD k 0 : Nat) : Int)) := by
  simp [nums, List.getElem?_map, List.getElem?_eq_getElem h, List.getD]
set_option maxHeartbeats 1000000 in
theorem numbers_any (g : Nat) (xs : List Nat) (n : Nat) (w : World) (hl : xs.length = n) (hn : n ≤ 1000) (hx : ∀ k, xs.getD k 0 < 4294967296) (hb : Bk w g 35 (nums xs).toArray) :
    Calls Tryz.prog 111 #[.slice (some ⟨g, 0, none⟩) n n] w (New w.heap.size w (numsL xs n)) := by
  obtain ⟨i0, hi, hz0, hz1, hz2⟩ := info_parts Tryz.infoU8
  have HB := Lib.hid hb
  have HL := Lib.hid hl
  have HX := Lib.hid hx
  have wn : IntKind.i64.wrap (4 * (n : Int)) = ((4 * n : Nat) : Int) := by rw [IntKind.wrap_i64]; omega
  clear hb hl hx
  go_enter Tryz.func111, Tryz.ntmps111
  go_wp2_with (at_make; refine wpList_make_own _ rfl _ _ 24 rfl w.heap.size 5 i0 (.int .u8 0) 1 Tryz.underlying24 hi hz0 hz1 _ _ _ (4 * n) rfl rfl (by omega) (by rw [hz2]; omega) (by unfold maxLen; omega) (Nat.le_refl _) ?_)
  intro w0 hown0 hgrow0
  have hb0 : Below w.heap.size w w0 := (Below.refl _ _).grown hgrow0 (Nat.le_refl _) (fun k h => by cases h)
  clear hgrow0
  go_wp2
  go_loopw [3, 12] (fun out i wr => ∃ j : Nat, j ≤ n ∧ i = .int .i64 (j : Int) ∧ wr.ownsRow w.heap.size 5 1 out (4 * j) (bv (numsL xs j)) ∧ Below w.heap.size w wr) (fun _ i _ => n - (intOf i).toNat)
  case atStart => exact ⟨0, Nat.zero_le _, rfl, by simpa [bv, numsL] using hown0, hb0⟩
  case round =>
    obtain ⟨j, hj, rfl, hown, hbel⟩ := hrel
    by_cases hlt : j < n
    · have hc := (HB.out.below hbel HB.out.lt).cell j
      rw [List.getElem?_toArray, nums_at xs j (by rw [HL.out]; exact hlt)] at hc
      have hv := HX.out j
      have e1 := numsL_succ xs j (by rw [HL.out]; exact hlt)
      obtain ⟨v, hv'⟩ : ∃ v, v = xs.getD j 0 := ⟨_, rfl⟩
      rw [← hv'] at hc hv e1
      have E := Lib.hid e1
      have HO := Lib.hid hown
      have HBL := Lib.hid hbel
      have HP := Lib.hid (show ∀ X, Calls Tryz.prog 27 #[.int .u64 (v : Int), .int .i64 4] X (New X.heap.size X (putL v 4)) from fun X => put_any v 4 X (by omega) (by omega))
      have t0 : (j : Int) < (n : Int) := by omega
      have wv : IntKind.u64.wrap (v : Int) = (v : Int) := by rw [IntKind.wrap_u64]; omega
      clear e1 hv' hown hbel
      go_wp2_with (first
        | (go_at_call 27; ((with_reducible refine (HP.out _).mono ?_); rintro e w1 h1; obtain ⟨A1, c1, rfl, r1, b1⟩ := new_len h1; rw [putL_length] at r1; rw [putL_length]; have R1 := Lib.hid r1; have B1 := Lib.hid (HBL.out.trans (b1.mono HBL.out.size)); have O1 := Lib.hid (own_below HO.out b1); clear r1 b1 h1))
        | (at_builtin; refine append_rd rfl _ _ rfl w.heap.size _ (4 * j) _ rfl O1.out A1 4 c1 _ rfl R1.out (by omega) B1.out.size ?_; intro v' w2 hown2 hg2))
      go_roundw
      case rel => exact ⟨j + 1, by omega, by go_num, by rw [E.out, Nat.mul_succ]; exact hown2, B1.out.grown hg2 B1.out.size (fun g hg => (O1.out.lt g hg).1)⟩
      case measure => simp [intOf]; omega
    · obtain rfl : j = n := by omega
      have t0 : ¬ (j : Int) < (j : Int) := by omega
      go_wp2
      go_ret
      exact New.mk hown hbel
end Go.Proofs.YtkpfppiedadmbaaGreatDoor.S15

/-
  A region that draws its order, each of whose operations gives the same value in every world that meets S, and leaves one that does: it may be gone through in the text's order, once. No statement is proved here.
-/
namespace Go.Proofs.YtkpfppiedadmbaaGreatDoor
set_option linter.unusedSimpArgs false
set_option linter.unusedVariables false
set_option maxRecDepth 1024

section
variable {P : Program} {ops : Array Oper} {md : Region.Mode} {S : World → Prop} {F : Act → Prop}

def gives (P : Program) (o : Oper) (a : Act) (w : World) (R : Value → World → Prop) : Prop :=
  match (execOp a.eval o).run P w with
  | .ok (.value v) w' => R v w'
  | .ok .skip w' => R undef w'
  | .ok (.enter f args) w' => Calls P f args w' fun e w'' => ∃ v, e = .returned v ∧ R v w''
  | _ => False
theorem gives_wp {o : Oper} {a : Act} {w : World} {R : Value → World → Prop} {K : Act → World → Prop} {Q : Exit → Act → World → Prop} (h : gives P o a w R) (hk : ∀ v w', R v w' → K (a.put o.dst v) w') : o.wp P a w K Q := by
  unfold gives at h
  unfold Oper.wp
  generalize (execOp a.eval o).run P w = r at *
  cases r with
  | ok n w' =>
    cases n <;> simp only [Oper.upon] at h ⊢ <;> try exact h.elim
    case value v => exact hk _ _ h
    case skip => exact hk _ _ h
    case enter f args =>
      refine h.mono ?_
      rintro e w'' ⟨v, rfl, hr⟩
      exact hk _ _ hr
  | halt x w' => exact h.elim
theorem gives_same {o : Oper} {a a' : Act} {w : World} {R : Value → World → Prop} (e : execOp a'.eval o = execOp a.eval o) (h : gives P o a w R) : gives P o a' w R := by
  unfold gives at *
  rw [e]
  exact h
def Stp (P : Program) (ops : Array Oper) (S : World → Prop) (o : Oper) (v : Value) (a : Act) : Prop :=
  (Region.wanted o (yielded ops a.tmps) = true ∧ ∀ w, S w → gives P o a w (fun u w' => u = v ∧ S w')) ∨ (Region.wanted o (yielded ops a.tmps) = false ∧ v = undef)
theorem Stp.same {o : Oper} {v : Value} {a a' : Act} (h : Stp P ops S o v a) (e : execOp a'.eval o = execOp a.eval o) (hw : Region.wanted o (yielded ops a'.tmps) = Region.wanted o (yielded ops a.tmps)) : Stp P ops S o v a' := by
  rcases h with ⟨h1, h2⟩ | ⟨h1, h2⟩
  · exact .inl ⟨by rw [hw]; exact h1, fun w hS => gives_same e (h2 w hS)⟩
  · exact .inr ⟨by rw [hw]; exact h1, h2⟩
def anyS (P : Program) (md : Region.Mode) (ops : Array Oper) (S : World → Prop) (F : Act → Prop) : Nat → Array Bool → Act → Prop
  | 0, listed, a => Region.ready md ops listed = [] ∧ F a
  | f + 1, listed, a => Region.ready md ops listed ≠ [] ∧ ∀ i ∈ Region.ready md ops listed, ∃ (oi : Oper) (v : Value), ops[i]? = some oi ∧ Stp P ops S oi v a ∧ anyS P md ops S F f (listed.setIfInBounds i true) (a.put oi.dst v)
theorem wpAny_of_anyS {Q : Exit → Act → World → Prop} (hF : ∀ a, F a → ∀ w, S w → Q .normal a w) : ∀ (f : Nat) (listed : Array Bool) (a : Act), anyS P md ops S F f listed a → ∀ w, S w → wpAny P md ops Q f listed a w
  | 0, listed, a, h, w, hS => ⟨h.1, hF a h.2 w hS⟩
  | f + 1, listed, a, h, w, hS => by
    refine ⟨fun h0 => absurd h0 h.1, fun i hi => ?_⟩
    obtain ⟨oi, v, ho, hs, hn⟩ := h.2 i hi
    unfold wpOp
    simp only [ho]
    rcases hs with ⟨hw, hg⟩ | ⟨hw, hv⟩
    · simp only [hw, if_true]
      refine .inl (gives_wp (hg w hS) ?_)
      rintro u w' ⟨rfl, hS'⟩
      exact wpAny_of_anyS hF f _ _ hn w' hS'
    · simp only [hw, Bool.false_eq_true, if_false]
      rw [← hv]
      exact wpAny_of_anyS hF f _ _ hn w hS
theorem anyS_first {i : Nat} {oi : Oper} {v : Value} (hi : ops[i]? = some oi) (hsel : ∀ (j : Nat) (o : Oper) cs b, ops[j]? = some o → o.op ≠ .select cs b) :
    ∀ (f : Nat) (listed : Array Bool) (a : Act),
      (∀ j oj, ops[j]? = some oj → j ≠ i → listed.getD j true = false → (∀ e ∈ oj.after, Region.binds md e = true → e.on ≠ i) → oi.apart ops oj = true) →
      i ∈ Region.ready md ops listed → Stp P ops S oi v a → anyS P md ops S F f (listed.setIfInBounds i true) (a.put oi.dst v) → anyS P md ops S F (f + 1) listed a := by
  intro f
  induction f with
  | zero =>
    intro listed a hap hr hs H
    refine ⟨fun h => (by rw [h] at hr; cases hr), fun j hj => ?_⟩
    by_cases hji : j = i
    · subst hji; exact ⟨oi, v, hi, hs, H⟩
    · have := ready_mono hj hji
      rw [H.1] at this
      cases this
  | succ f ih =>
    intro listed a hap hr hs H
    refine ⟨fun h => (by rw [h] at hr; cases hr), fun j hj => ?_⟩
    by_cases hji : j = i
    · subst hji; exact ⟨oi, v, hi, hs, H⟩
    · obtain ⟨oj, u, hoj, hsu, Hn⟩ := H.2 j (ready_mono hj hji)
      obtain ⟨hjun, oj', hoj', hall⟩ := mem_ready.1 hj
      have : oj' = oj := Option.some.inj (hoj'.symm.trans hoj)
      subst this
      have hiun := (mem_ready.1 hr).1
      have hwait : ∀ e ∈ oj'.after, Region.binds md e = true → e.on ≠ i := fun e he hb heq => by
        have := hall e he hb
        rw [heq, getD_both hiun] at this
        cases this
      obtain ⟨a1, a2, a3⟩ := Oper.apart_spec (hap j oj' hoj hji hjun hwait)
      refine ⟨oj', u, hoj, hsu.same (execOp_put oj' (fun cs b => hsel j oj' cs b hoj) a oi.dst v a1).symm (wanted_put oj' a oi.dst v a1).symm, ?_⟩
      refine ih _ _ (fun k ok hok hki hkun hkw => hap k ok hok hki ?_ hkw) (ready_mono hr (Ne.symm hji)) (hs.same (execOp_put oi (fun cs b => hsel i oi cs b hi) a oj'.dst u a3) (wanted_put oi a oj'.dst u a3)) ?_
      · by_cases hkj : j = k
        · subst hkj
          exact hjun
        · rwa [getD_set_ne true hkj] at hkun
      · rw [Array.setIfInBounds_comm _ _ hji, ← Act.put_comm a v u a2]
        exact Hn
def Seq (P : Program) (ops : Array Oper) (S : World → Prop) (F : Act → Prop) : List Oper → Act → Prop
  | [], a => F a
  | o :: l, a => ∃ v, Stp P ops S o v a ∧ Seq P ops S F l (a.put o.dst v)
def lexAll (md : Region.Mode) (ops : Array Oper) : Nat → Nat → Array Bool → Bool
  | 0, _, listed => (Region.ready md ops listed).isEmpty
  | f + 1, k, listed => (Region.ready md ops listed).contains k && Region.free md ops listed k && lexAll md ops f (k + 1) (listed.setIfInBounds k true)
theorem anyS_of_seq (hsel : Region.noSelect ops = true) : ∀ (l : List Oper) (k : Nat) (listed : Array Bool) (a : Act), (∀ j, j < l.length → l[j]? = ops[k + j]?) → lexAll md ops l.length k listed = true → Seq P ops S F l a → anyS P md ops S F l.length listed a
  | [], k, listed, a, _, hB, h => ⟨by simpa [lexAll] using hB, h⟩
  | o :: l, k, listed, a, hl, hB, h => by
    have h0 : ops[k]? = some o := by simpa using (hl 0 (by simp)).symm
    simp only [List.length_cons, lexAll, Bool.and_eq_true] at hB
    obtain ⟨⟨hr, hf⟩, hB'⟩ := hB
    obtain ⟨v, hs, hn⟩ := h
    exact anyS_first h0 (Region.noSelect_spec hsel) l.length listed a (Region.free_spec h0 hf) (by simpa using hr) hs
      (anyS_of_seq hsel l (k + 1) _ _ (fun j hj => by have := hl (j + 1) (by simp; omega); simpa [Nat.add_assoc, Nat.add_comm 1 j] using this) hB' hn)
def steadyB (ops : Array Oper) : Bool := Region.noSelect ops && lexAll .any ops ops.size 0 (Array.replicate ops.size false)
theorem wp_region_steady (S : World → Prop) {id : Nat} {Q : Exit → Act → World → Prop} {a : Act} {w : World} {l : List Oper} (hm : P.follows .mixedOrders = true) (hB : steadyB l.toArray = true) (hS : S w.drew)
    (h : Seq P l.toArray S (fun a' => ∀ w', S w' → Q .normal a' w') l a) : (Code.region id l.toArray true).wp P Q a w := by
  simp only [steadyB, Bool.and_eq_true] at hB
  refine wp_region_any hm ?_
  exact wpAny_of_anyS (F := fun a' => ∀ w', S w' → Q .normal a' w') (fun a hF w hS => hF w hS) l.length _ _ (anyS_of_seq hB.1 l 0 _ _ (fun j _ => by simp) (by simpa using hB.2) h) _ hS

theorem seq_nil {a : Act} (h : F a) : Seq P ops S F [] a := h
/-- An operation that leaves the world as it is. -/
theorem seq_pure {o : Oper} {l : List Oper} {a : Act} (v : Value) (hw : Region.wanted o (yielded ops a.tmps) = true) (hx : ∀ w, S w → (execOp a.eval o).run P w = .ok (.value v) w) (h : Seq P ops S F l (a.put o.dst v)) : Seq P ops S F (o :: l) a :=
  ⟨v, .inl ⟨hw, fun w hS => by unfold gives; rw [hx w hS]; exact ⟨rfl, hS⟩⟩, h⟩
theorem seq_skip {o : Oper} {l : List Oper} {a : Act} (hw : Region.wanted o (yielded ops a.tmps) = false) (h : Seq P ops S F l (a.put o.dst undef)) : Seq P ops S F (o :: l) a := ⟨undef, .inr ⟨hw, rfl⟩, h⟩
/-- A call whose answer hangs on no world. -/
theorem seq_call {o : Oper} {l : List Oper} {a : Act} {f : FuncId} {args : Array Value} (v : Value) (hw : Region.wanted o (yielded ops a.tmps) = true) (hx : ∀ w, S w → (execOp a.eval o).run P w = .ok (.enter f args) w)
    (hc : ∀ w, S w → Calls P f args w fun e w' => e = .returned v ∧ S w') (h : Seq P ops S F l (a.put o.dst v)) : Seq P ops S F (o :: l) a :=
  ⟨v, .inl ⟨hw, fun w hS => by unfold gives; rw [hx w hS]; exact (hc w hS).mono fun e w' ⟨h1, h2⟩ => ⟨v, h1, rfl, h2⟩⟩, h⟩
/-- A load of a long array. -/
theorem seq_load {o : Oper} {l : List Oper} {a : Act} (hw : Region.wanted o (yielded ops a.tmps) = true) (ty : TypeId) (x : Operand) (ho : o.op = .load ty x)
    (b off : Nat) (hx : a.eval x = .pointer (some ⟨b, off, none⟩)) (cs : List Value) (d : TypeDesc) (hc : ∀ w, S w → w.rangeAt b off cs)
    (hu : P.underlying ty = some d) (hd : d.isRow = true) (hi : (P.info? ty).map (·.size) = some cs.length)
    (h : Seq P ops S F l (a.put o.dst (.agg cs.toArray))) : Seq P ops S F (o :: l) a :=
  seq_pure _ hw (fun w hS => by
    unfold execOp
    simp only [ho, hx, Instr.loadAt, Instr.sureAddr, Sem.run_bind, Sem.run_pure, Result.andThen_ok, run_loadVar_mid w b off ty cs d (hc w hS) hu hd hi]) h
end
end Go.Proofs.YtkpfppiedadmbaaGreatDoor
