/-
  What the calls of package mac are to do, as one structure; what the first question of each statement of layer 6 answers. No statement is proved here.
-/
import Derived.Test.YtjgcaodicbikiaaDoorMacR
import Derived.Lib.SmallJoins
namespace Go.Proofs.YtjgcaodicbikiaaDoor.S6
set_option linter.unusedSimpArgs false
set_option linter.unusedVariables false
open Go.RowKit

/-- What the calls of package mac do, in a world that holds what they read. -/
structure MC where
  ok : World → Prop
  bel : ∀ {w w' : World}, ok w → Below w.heap.size w w' → ok w'
  size : ∀ (k : Int) (w : World), ok w → Calls Tryd.prog 9 #[.int .i64 k] w fun e w' => e = .returned (.tuple #[.int .i64 (szK k : Nat), .int .i64 (blK k : Nat)]) ∧ Below w.heap.size w w'
  sum : ∀ (k : Int) (A : Option Addr) (n c : Nat) (xs : List UInt8) (w : World), ok w → Rd w A n c xs → n ≤ 100000000 → Calls Tryd.prog 12 #[.int .i64 k, .slice A n c] w (Gives w.heap.size w (sumK k xs))
  macF : ∀ (k : Int) (A : Option Addr) (n c : Nat) (key : List UInt8) (At : Option Addr) (nt ct : Nat) (text : List UInt8) (w : World), ok w → Rd w A n c key → Rd w At nt ct text → n ≤ 100000 → nt ≤ 100000 → Calls Tryd.prog 14 #[.int .i64 k, .slice A n c, .slice At nt ct] w (GivesF w.heap.size w (macK k key text))
  mask : ∀ (k : Int) (At : Option Addr) (nt ct : Nat) (text : List UInt8) (n : Int) (w : World), ok w → Rd w At nt ct text → nt ≤ 100000 → Calls Tryd.prog 16 #[.int .i64 k, .slice At nt ct, .int .i64 n] w (Gives w.heap.size w (maskK k text n))
  one2 : ∀ (A : Option Addr) (n c : Nat) (xs : List UInt8) (w : World), ok w → Rd w A n c xs → n ≤ 100000 → Calls Tryd.prog 18 #[.slice A n c] w (Gives w.heap.size w (S2.sum xs))
  one5 : ∀ (A : Option Addr) (n c : Nat) (xs : List UInt8) (w : World), ok w → Rd w A n c xs → n ≤ 100000 → Calls Tryd.prog 19 #[.slice A n c] w (Gives w.heap.size w (S5.sum xs))
theorem MC.mac (M : MC) (k : Int) (A : Option Addr) (n c : Nat) (key : List UInt8) (At : Option Addr) (nt ct : Nat) (text : List UInt8) (w : World) (h : M.ok w) (h1 : Rd w A n c key) (h2 : Rd w At nt ct text) (h3 : n ≤ 100000) (h4 : nt ≤ 100000) : Calls Tryd.prog 14 #[.int .i64 k, .slice A n c, .slice At nt ct] w (Gives w.heap.size w (macK k key text)) :=
  (M.macF k A n c key At nt ct text w h h1 h2 h3 h4).mono fun e w' h => h.gives
theorem abc_0 : (sumK 0 [97, 98, 99]).getD 0 0 = 186 := by
  show (S2.sum [97, 98, 99]).getD 0 0 = 186
  rw [S2.sum_abc]
  rfl
abbrev lits (W : World) : World := (W.alloc (.cells #[.int .u8 107, .int .u8 101, .int .u8 121] 5 (3, 4))).alloc (.cells #[.int .u8 97, .int .u8 98, .int .u8 99] 5 (3, 4))
theorem lits_below (W : World) : Below W.heap.size W (lits W) := ((Below.refl _ _).alloc (Nat.le_refl _) _).alloc (by simp) _
theorem lits_key (W : World) : Rd (lits W) (some ⟨W.heap.size, 0, none⟩) 3 3 [107, 101, 121] := (rd_mark W _ [107, 101, 121] _ rfl (by simp [maxLen])).alloc _
theorem lits_abc (W : World) : Rd (lits W) (some ⟨W.heap.size + 1, 0, none⟩) 3 3 [97, 98, 99] := rd_markAt _ _ [97, 98, 99] _ _ (by simp) rfl (by simp [maxLen])
set_option maxHeartbeats 4000000 in
set_option maxRecDepth 20000 in
theorem awake_true (M : MC) (w : World) (hk : M.ok w) : Calls Tryd.prog 8 #[] w fun e w' => e = .returned (.bool true) ∧ Below w.heap.size w w' := by
  obtain ⟨X, hX⟩ : ∃ X, X = sumK 0 [97, 98, 99] := ⟨_, rfl⟩
  obtain ⟨Y, hY⟩ : ∃ Y, Y = macK 0 [107, 101, 121] [97, 98, 99] := ⟨_, rfl⟩
  obtain ⟨Z, hZ⟩ : ∃ Z, Z = maskK 0 [97, 98, 99] 40 := ⟨_, rfl⟩
  have XL := Lib.hid (show X.length = 32 by rw [hX, sumK_length]; rfl)
  have X0 := Lib.hid (show X.getD 0 0 = 186 by rw [hX]; exact abc_0)
  have ZL := Lib.hid (show Z.length = 40 by rw [hZ]; exact maskK_length 0 _ 40 (by decide) (by omega) (by omega))
  have HS := Lib.hid (show ∀ W, M.ok W → Calls Tryd.prog 9 #[.int .i64 1] W fun e w' => e = .returned (.tuple #[.int .i64 64, .int .i64 128]) ∧ Below W.heap.size W w' from fun W g => M.size 1 W g)
  have HSM := Lib.hid (show ∀ W A c, M.ok W → Rd W A 3 c [97, 98, 99] → Calls Tryd.prog 12 #[.int .i64 0, .slice A 3 c] W (Gives W.heap.size W X) from fun W A c g h => by rw [hX]; exact M.sum 0 A 3 c _ W g h (by omega))
  have HM := Lib.hid (show ∀ W A c A' c', M.ok W → Rd W A 3 c [107, 101, 121] → Rd W A' 3 c' [97, 98, 99] → Calls Tryd.prog 14 #[.int .i64 0, .slice A 3 c, .slice A' 3 c'] W (Gives W.heap.size W Y) from fun W A c A' c' g h h' => by rw [hY]; exact M.mac 0 A 3 c _ A' 3 c' _ W g h h' (by omega) (by omega))
  have HR := Lib.hid (show ∀ W A c A' c', Rd W A 3 c [107, 101, 121] → Rd W A' 3 c' [97, 98, 99] → Calls Tryd.prog 15 #[.int .i64 0, .slice A 3 c, .slice A' 3 c'] W (New W.heap.size W Y) from fun W A c A' c' h h' => by rw [hY]; exact rmac_any 0 A 3 c _ A' 3 c' _ W h h' (by omega) (by omega))
  have HZ := Lib.hid (show ∀ W A c, M.ok W → Rd W A 3 c [97, 98, 99] → Calls Tryd.prog 16 #[.int .i64 0, .slice A 3 c, .int .i64 40] W (Gives W.heap.size W Z) from fun W A c g h => by rw [hZ]; exact M.mask 0 A 3 c _ 40 W g h (by omega))
  have HN := Lib.hid (show ∀ W, M.ok W → Calls Tryd.prog 14 #[.int .i64 2, .slice none 0 0, .slice none 0 0] W (Gives W.heap.size W []) from fun W g => M.mac 2 none 0 0 [] none 0 0 [] W g (Rd.nil_ W) (Rd.nil_ W) (by omega) (by omega))
  have HK := Lib.hid hk
  clear hk hX hY hZ
  have kc := fun (w : World) (C : Array Value) (n c : Nat) => Lib.run_convert_bytes_const (P := Tryd.prog) w 22 5 C n c Tryd.underlying22 Tryd.underlying5
  have kc2 := fun (w : World) (o : Obj) (C : Array Value) (n c : Nat) => Joins.run_convert_bytes_const_at (P := Tryd.prog) (w.alloc o) 22 5 C n c (w.heap.size + 1) (by simp) Tryd.underlying22 Tryd.underlying5
  go_enter Tryd.func8, Tryd.ntmps8
  go_wp2_with (first
    | (go_at_call 9; ((with_reducible refine (HS.out _ HK.out).mono ?_); rintro e w1 ⟨rfl, b1⟩; have B1 := Lib.hid b1; have K1 := Lib.hid (M.bel HK.out b1); clear b1))
    | (go_at_call 12; ((with_reducible refine (HSM.out _ (some ⟨w1.heap.size, 0, none⟩) 3 (M.bel K1.out ((Below.refl _ _).alloc (Nat.le_refl _) _)) (rd_mark w1 _ [97, 98, 99] _ rfl (by simp [maxLen]))).mono ?_); intro e w2 h2; obtain ⟨A2, c2, rfl, r2, b2⟩ := h2; have K2 := Lib.hid (M.bel (M.bel K1.out ((Below.refl _ _).alloc (Nat.le_refl _) _)) b2); have B2 := Lib.hid ((B1.out.alloc B1.out.size _).trans (b2.mono (by have := B1.out.size; simp; omega))); rw [XL.out] at r2; rw [XL.out]; obtain ⟨bx, ox, rfl, hbx, hcx⟩ := r2.at_ (by omega); have R2 := Lib.hid r2; clear r2 b2 hbx hcx))
    | (go_at_call 14; ((with_reducible refine (HM.out (lits w2) (some ⟨w2.heap.size, 0, none⟩) 3 (some ⟨w2.heap.size + 1, 0, none⟩) 3 (M.bel K2.out (lits_below w2)) (lits_key w2) (lits_abc w2)).mono ?_); intro e w3 h3; obtain ⟨A3, c3, rfl, r3, b3⟩ := h3; have K3 := Lib.hid (M.bel (M.bel K2.out (lits_below w2)) b3); have B3 := Lib.hid ((B2.out.trans ((lits_below w2).mono B2.out.size)).trans (b3.mono (Nat.le_trans B2.out.size (lits_below w2).size))); have X3 := Lib.hid ((R2.out.below (lits_below w2)).below b3); have R3 := Lib.hid r3; clear r3 b3))
    | (go_at_call 16; ((with_reducible refine (HZ.out _ (some ⟨w3.heap.size, 0, none⟩) 3 (M.bel K3.out ((Below.refl _ _).alloc (Nat.le_refl _) _)) (rd_mark w3 _ [97, 98, 99] _ rfl (by simp [maxLen]))).mono ?_); intro e w4 h4; obtain ⟨A4, c4, rfl, r4, b4⟩ := h4; rw [ZL.out]; have K4 := Lib.hid (M.bel (M.bel K3.out ((Below.refl _ _).alloc (Nat.le_refl _) _)) b4); have B4 := Lib.hid ((B3.out.alloc B3.out.size _).trans (b4.mono (by have := B3.out.size; simp; omega))); have X4 := (X3.out.alloc _).below b4; have R4 := Lib.hid ((R3.out.alloc _).below b4); obtain ⟨by_, oy, ey, hby, hcy⟩ := X4.at_ (by omega); injection ey with ey; injection ey with ey1 ey2; have hx := hcy 0 (by omega); rw [← ey1, ← ey2, X0.out] at hx; have hx : w4.cell? ⟨bx, ox, none⟩ = some (.int .u8 186) := hx; clear r4 b4 X4 hcy ey1 ey2 hby))
    | (go_at_call 15; ((with_reducible refine (HR.out (lits w4) (some ⟨w4.heap.size, 0, none⟩) 3 (some ⟨w4.heap.size + 1, 0, none⟩) 3 (lits_key w4) (lits_abc w4)).mono ?_); intro e w5 h5; obtain ⟨A5, c5, rfl, r5, b5⟩ := new_len h5; have K5 := Lib.hid (M.bel (M.bel K4.out (lits_below w4)) b5); have B5 := Lib.hid ((B4.out.trans ((lits_below w4).mono B4.out.size)).trans (b5.mono (Nat.le_trans B4.out.size (lits_below w4).size))); have Y5 := Lib.hid ((R4.out.below (lits_below w4)).below b5); have R5 := Lib.hid r5; clear h5 r5 b5))
    | (go_at_call 11; ((with_reducible refine (rsame_true A3 A5 Y.length c3 Y.length c5 Y Y _ Y5.out R5.out rfl).mono ?_); rintro e w6 ⟨rfl, b6⟩; have K6 := Lib.hid (M.bel K5.out b6); have B6 := Lib.hid (B5.out.trans (b6.mono B5.out.size)); clear b6))
    | (go_at_call 14; ((with_reducible refine (HN.out _ K6.out).mono ?_); intro e w7 h7; obtain ⟨A7, c7, rfl, r7, b7⟩ := h7; have B7 := Lib.hid (B6.out.trans (b7.mono B6.out.size)); clear r7 b7)))
  go_ret
  exact ⟨rfl, B7.out⟩
end Go.Proofs.YtjgcaodicbikiaaDoor.S6
