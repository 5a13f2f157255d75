/-
  Texts put together: XmS. No statement is proved here.
-/
import Derived.Test.YtkpfppiedadmbaaDoorWn30
import Derived.Test.YtkpfppiedadmbaaDoorWn13

/-
  The walk of layer 16's fourth statement. No statement is proved here. (Written by genxms.py.)
-/
namespace Go.Proofs.YtkpfppiedadmbaaDoor.S16
set_option linter.unusedSimpArgs false
set_option linter.unusedVariables false
set_option maxRecDepth 4096
open Go.RowKit S15

def lightX (L H : Int) : Bool := !mayX L H || (decide (6 < H) || (decide (H ≤ 2) && decide (L ≤ 2)))
set_option maxHeartbeats 2000000 in
theorem rlight_any (L H : Int) (w : World) : Calls Tryd.prog 14 #[.agg (shA L H)] w (GivesB (lightX L H) w) := by
  have HM := Lib.hid (show ∀ X, Calls Tryd.prog 9 #[.agg #[.int .i64 L, .int .i64 H]] X (GivesB (mayX L H) X) from fun X => rmay16_any L H X)
  obtain ⟨g, hg⟩ : ∃ g, w.heap.size = g := ⟨_, rfl⟩
  obtain ⟨w0, hw0⟩ : ∃ w0, w.alloc (.cells (shA L H) 23) = w0 := ⟨_, rfl⟩
  have M0 := Lib.hid (show Bk w0 g 23 (shA L H) by rw [← hw0, ← hg]; exact Bk.new _ _ _)
  have B0 := Lib.hid (show Below w.heap.size w w0 by rw [← hw0]; exact (Below.refl _ _).alloc (Nat.le_refl _) _)
  have k0 : w0.cell? ⟨g, 0, none⟩ = some (.int .i64 L) := M0.out.cell 0
  have k1 : w0.cell? ⟨g, 1, none⟩ = some (.int .i64 H) := M0.out.cell 1
  by_cases c : mayX L H = true
  · rw [c] at HM
    by_cases c6 : 6 < H
    · have e : lightX L H = true := by simp [lightX, c6]
      rw [e]
      clear e c
      go_enter Tryd.func14, Tryd.ntmps14
      go_upto_region 1 with (fail)
      clear hw0 hg
      go_wp2_with (go_at_call 9; ((with_reducible refine (HM.out _).mono ?_); rintro e w1 ⟨rfl, b1⟩; have B1 := Lib.hid (B0.out.trans (b1.mono B0.out.size)); have M1 := M0.out.below b1 M0.out.lt; have j0 := M1.cell 0; have j1 := M1.cell 1; simp only [List.getElem?_toArray, List.getElem?_cons_zero, List.getElem?_cons_succ] at j0 j1; clear b1 M1))
      go_ret
      exact ⟨rfl, B1.out⟩
    · by_cases c2 : H ≤ 2
      · have d6 : decide ((6 : Int) < H) = false := by simpa using c6
        have e : lightX L H = decide (L ≤ 2) := by simp [lightX, c, c2, c6]
        rw [e]
        clear e c
        go_enter Tryd.func14, Tryd.ntmps14
        go_upto_region 1 with (fail)
        clear hw0 hg
        go_wp2_with (go_at_call 9; ((with_reducible refine (HM.out _).mono ?_); rintro e w1 ⟨rfl, b1⟩; have B1 := Lib.hid (B0.out.trans (b1.mono B0.out.size)); have M1 := M0.out.below b1 M0.out.lt; have j0 := M1.cell 0; have j1 := M1.cell 1; simp only [List.getElem?_toArray, List.getElem?_cons_zero, List.getElem?_cons_succ] at j0 j1; clear b1 M1))
        go_ret
        exact ⟨rfl, B1.out⟩
      · have d6 : decide ((6 : Int) < H) = false := by simpa using c6
        have e : lightX L H = false := by simp [lightX, c, c2, c6]
        rw [e]
        clear e c
        go_enter Tryd.func14, Tryd.ntmps14
        go_upto_region 1 with (fail)
        clear hw0 hg
        go_wp2_with (go_at_call 9; ((with_reducible refine (HM.out _).mono ?_); rintro e w1 ⟨rfl, b1⟩; have B1 := Lib.hid (B0.out.trans (b1.mono B0.out.size)); have M1 := M0.out.below b1 M0.out.lt; have j0 := M1.cell 0; have j1 := M1.cell 1; simp only [List.getElem?_toArray, List.getElem?_cons_zero, List.getElem?_cons_succ] at j0 j1; clear b1 M1))
        go_ret
        exact ⟨rfl, B1.out⟩
  · have c : mayX L H = false := by simpa using c
    have e : lightX L H = true := by simp [lightX, c]
    rw [e]
    rw [c] at HM
    clear e c
    go_enter Tryd.func14, Tryd.ntmps14
    go_upto_region 1 with (fail)
    clear hw0 hg
    go_wp2_with (go_at_call 9; ((with_reducible refine (HM.out _).mono ?_); rintro e w1 ⟨rfl, b1⟩; have B1 := Lib.hid (B0.out.trans (b1.mono B0.out.size)); have M1 := M0.out.below b1 M0.out.lt; have j0 := M1.cell 0; have j1 := M1.cell 1; simp only [List.getElem?_toArray, List.getElem?_cons_zero, List.getElem?_cons_succ] at j0 j1; clear b1 M1))
    go_ret
    exact ⟨rfl, B1.out⟩
theorem rget_step16 (xs : List UInt8) (k : Nat) (hk : k < xs.length) (h8 : k < 8) :
    IntKind.u64.wrap (IntKind.u64.wrap ((getL (xs.take k) : Nat) * 256) + IntKind.u64.wrap ((xs[k]?.getD 0).toNat : Int)) = (getL (xs.take (k + 1)) : Nat) := by
  have hg := getL_lt (xs.take k)
  rw [List.length_take, Nat.min_eq_left (by omega)] at hg
  have h7 : 256 ^ k ≤ 256 ^ 7 := Nat.pow_le_pow_right (by omega) (by omega)
  have hc := (xs[k]'hk).toNat_lt
  rw [List.take_succ_eq_append_getElem hk, getL_snoc, List.getElem?_eq_getElem hk, Option.getD_some]
  simp only [IntKind.wrap_u64]
  omega

theorem rget_any16 (A : Option Addr) (n c : Nat) (xs : List UInt8) (w : World) (hn : n ≤ 8) (h : Rd w A n c xs) :
    Calls Tryd.prog 19 #[.slice A n c] w fun e w' => e = .returned (.tuple #[.int .u64 (getL xs : Nat), .bool true]) ∧ w = w' := by
  go_enter Tryd.func19, Tryd.ntmps19
  go_wp2
  go_loop [4, 5] (fun v i => ∃ k : Nat, k ≤ n ∧ i = .int .i64 k ∧ v = .int .u64 (getL (xs.take k) : Nat)) (fun _ i => n - (intOf i).toNat)
  case atStart => exact ⟨0, Nat.zero_le _, rfl, rfl⟩
  case round =>
    obtain ⟨k, hk, rfl, rfl⟩ := hrel
    by_cases hlt : k < n
    · obtain ⟨b, off, rfl, hb, hcell⟩ := h.at_ (by omega)
      have hc := hcell k hlt
      clear hcell
      go_wp2
      go_round
      case rel =>
        exact ⟨k + 1, by omega, by go_num, by rw [← rget_step16 xs k (by have := h.len; omega) (by omega)]⟩
      case measure => simp [intOf]; omega
    · obtain rfl : k = n := by omega
      go_wp2
      go_ret2
      have e := h.len
      exact ⟨by rw [List.take_of_length_le (by omega)]; rfl, rfl⟩
abbrev toA (N : Nat) (At : Option Addr) (nt ct : Nat) : Array Value := #[.int .u64 (N : Int), .slice At nt ct]
/-- What the arguments are, boxed. -/
theorem sh3 {w : World} {L H : Int} {As Al Ae At : Option Addr} {ns cs nl cl ne ce N nt ct : Nat} {g : Nat} {w0 : World} (hg : w.heap.size = g) (hw : ((w.alloc (.cells (shA L H) 23)).alloc (.cells (mkA As ns cs Al nl cl Ae ne ce) 31)).alloc (.cells (toA N At nt ct) 33) = w0) :
    Bk w0 g 23 (shA L H) ∧ Bk w0 (g + 1) 31 (mkA As ns cs Al nl cl Ae ne ce) ∧ Bk w0 (g + 2) 33 (toA N At nt ct) ∧ Below w.heap.size w w0 := by
  obtain ⟨h1, h2, h3⟩ := sh_m (w := w) (L := L) (H := H) (As := As) (ns := ns) (cs := cs) (Al := Al) (nl := nl) (cl := cl) (Ae := Ae) (ne := ne) (ce := ce) hg
  rw [← hw]
  exact ⟨h1.alloc _, h2.alloc _, Bk.newAt _ _ _ _ (by simp [hg]), h3.alloc h3.size _⟩
theorem cells7 {w : World} {g : Nat} {L H : Int} {As Al Ae At : Option Addr} {ns cs nl cl ne ce N nt ct : Nat} (h : Bk w g 23 (shA L H)) (h' : Bk w (g + 1) 31 (mkA As ns cs Al nl cl Ae ne ce)) (h'' : Bk w (g + 2) 33 (toA N At nt ct)) :
    w.cell? ⟨g, 0, none⟩ = some (.int .i64 L) ∧ w.cell? ⟨g, 1, none⟩ = some (.int .i64 H) ∧ w.cell? ⟨g + 1, 0, none⟩ = some (.slice As ns cs) ∧ w.cell? ⟨g + 1, 1, none⟩ = some (.slice Al nl cl) ∧ w.cell? ⟨g + 1, 2, none⟩ = some (.slice Ae ne ce) ∧ w.cell? ⟨g + 2, 0, none⟩ = some (.int .u64 (N : Int)) ∧ w.cell? ⟨g + 2, 1, none⟩ = some (.slice At nt ct) :=
  ⟨h.cell 0, h.cell 1, h'.cell 0, h'.cell 1, h'.cell 2, h''.cell 0, h''.cell 1⟩
set_option maxHeartbeats 8000000 in
theorem xmssKeeps_walk (M : XC) (w : World) (hk : M.ok w) (L H : Int) (As : Option Addr) (ns cs : Nat) (sec : List UInt8) (hs : Rd w As ns cs sec) (Al : Option Addr) (nl cl : Nat) (salt : List UInt8) (hl : Rd w Al nl cl salt) (Ae : Option Addr) (ne ce : Nat) (sd : List UInt8) (he : Rd w Ae ne ce sd) (N : Nat) (hN : N < 18446744073709551616) (At : Option Addr) (nt ct : Nat) (text : List UInt8) (ht : Rd w At nt ct text) :
    Calls Tryd.prog 4 #[.agg (shA L H), .agg (mkA As ns cs Al nl cl Ae ne ce), .agg (toA N At nt ct)] w (GivesB true w) := by
  have HK := Lib.hid hk
  obtain ⟨g, hg⟩ : ∃ g, w.heap.size = g := ⟨_, rfl⟩
  obtain ⟨w0, hw0⟩ : ∃ w0, ((w.alloc (.cells (shA L H) 23)).alloc (.cells (mkA As ns cs Al nl cl Ae ne ce) 31)).alloc (.cells (toA N At nt ct) 33) = w0 := ⟨_, rfl⟩
  obtain ⟨m1, m2, m3, b0⟩ := sh3 hg hw0
  have M0 := Lib.hid m1
  have G0 := Lib.hid m2
  have T0 := Lib.hid m3
  have B0 := Lib.hid b0
  have CL := Lib.hid (show ∀ X, Calls Tryd.prog 14 #[.agg #[.int .i64 L, .int .i64 H]] X (GivesB (lightX L H) X) from fun X => rlight_any L H X)
  have CM := Lib.hid (show ∀ X, Calls Tryd.prog 9 #[.agg #[.int .i64 L, .int .i64 H]] X (GivesB (mayX L H) X) from fun X => rmay16_any L H X)
  have CN := Lib.hid (show ∀ X, Calls Tryd.prog 15 #[.agg #[.slice As ns cs, .slice Al nl cl, .slice Ae ne ce]] X (GivesB (mayN ns nl ne) X) from fun X => rmay_any15 As ns cs Al nl cl Ae ne ce X)
  clear m1 m2 m3 b0
  by_cases c1 : lightX L H = true
  case neg =>
    have c1 : lightX L H = false := by simpa using c1
    rw [c1] at CL
    clear c1 hs hl he ht hN hk
    go_enter Tryd.func4, Tryd.ntmps4
    go_upto_region 1 with (fail)
    clear hw0 hg
    go_wp2_with (first
      | (go_at_call 7; ((with_reducible refine (awake16 M _ (M.bel HK.out B0.out)).mono ?_); rintro e w1 ⟨rfl, b1⟩; have B1 := Lib.hid (B0.out.trans (b1.mono B0.out.size)); have M1 := Lib.hid (M0.out.below b1 M0.out.lt); have G1 := Lib.hid (G0.out.below b1 G0.out.lt); have T1 := Lib.hid (T0.out.below b1 T0.out.lt); obtain ⟨k0, k1, k2, k3, k4, k5, k6⟩ := cells7 M1.out G1.out T1.out; clear b1))
      | (go_at_call 14; ((with_reducible refine (CL.out _).mono ?_); rintro e w2 ⟨rfl, b2⟩; have B2 := Lib.hid (B1.out.trans (b2.mono B1.out.size)); have M2 := Lib.hid (M1.out.below b2 M1.out.lt); have G2 := Lib.hid (G1.out.below b2 G1.out.lt); have T2 := Lib.hid (T1.out.below b2 T1.out.lt); obtain ⟨j0, j1, j2, j3, j4, j5, j6⟩ := cells7 M2.out G2.out T2.out; clear b2)))
    go_ret
    exact ⟨rfl, B2.out⟩

  rw [c1] at CL
  by_cases c2 : mayX L H = true
  case neg =>
    have c2 : mayX L H = false := by simpa using c2
    rw [c2] at CM
    clear c1 c2 hs hl he ht hN hk
    go_enter Tryd.func4, Tryd.ntmps4
    go_upto_region 1 with (fail)
    clear hw0 hg
    go_wp2_with (first
      | (go_at_call 7; ((with_reducible refine (awake16 M _ (M.bel HK.out B0.out)).mono ?_); rintro e w1 ⟨rfl, b1⟩; have B1 := Lib.hid (B0.out.trans (b1.mono B0.out.size)); have M1 := Lib.hid (M0.out.below b1 M0.out.lt); have G1 := Lib.hid (G0.out.below b1 G0.out.lt); have T1 := Lib.hid (T0.out.below b1 T0.out.lt); obtain ⟨k0, k1, k2, k3, k4, k5, k6⟩ := cells7 M1.out G1.out T1.out; clear b1))
      | (go_at_call 14; ((with_reducible refine (CL.out _).mono ?_); rintro e w2 ⟨rfl, b2⟩; have B2 := Lib.hid (B1.out.trans (b2.mono B1.out.size)); have M2 := Lib.hid (M1.out.below b2 M1.out.lt); have G2 := Lib.hid (G1.out.below b2 G1.out.lt); have T2 := Lib.hid (T1.out.below b2 T1.out.lt); obtain ⟨j0, j1, j2, j3, j4, j5, j6⟩ := cells7 M2.out G2.out T2.out; clear b2))
      | (go_at_call 9; ((with_reducible refine (CM.out _).mono ?_); rintro e w3 ⟨rfl, b3⟩; have B3 := Lib.hid (B2.out.trans (b3.mono B2.out.size)); have M3 := Lib.hid (M2.out.below b3 M2.out.lt); have G3 := Lib.hid (G2.out.below b3 G2.out.lt); have T3 := Lib.hid (T2.out.below b3 T2.out.lt); obtain ⟨i0, i1, i2, i3, i4, i5, i6⟩ := cells7 M3.out G3.out T3.out; clear b3)))
    go_ret
    exact ⟨rfl, B3.out⟩

  rw [c2] at CM
  by_cases c3 : H ≤ 6
  case neg =>
    have t3 : 6 < H := by omega
    clear c1 c2 c3 hs hl he ht hN hk
    go_enter Tryd.func4, Tryd.ntmps4
    go_upto_region 1 with (fail)
    clear hw0 hg
    go_wp2_with (first
      | (go_at_call 7; ((with_reducible refine (awake16 M _ (M.bel HK.out B0.out)).mono ?_); rintro e w1 ⟨rfl, b1⟩; have B1 := Lib.hid (B0.out.trans (b1.mono B0.out.size)); have M1 := Lib.hid (M0.out.below b1 M0.out.lt); have G1 := Lib.hid (G0.out.below b1 G0.out.lt); have T1 := Lib.hid (T0.out.below b1 T0.out.lt); obtain ⟨k0, k1, k2, k3, k4, k5, k6⟩ := cells7 M1.out G1.out T1.out; clear b1))
      | (go_at_call 14; ((with_reducible refine (CL.out _).mono ?_); rintro e w2 ⟨rfl, b2⟩; have B2 := Lib.hid (B1.out.trans (b2.mono B1.out.size)); have M2 := Lib.hid (M1.out.below b2 M1.out.lt); have G2 := Lib.hid (G1.out.below b2 G1.out.lt); have T2 := Lib.hid (T1.out.below b2 T1.out.lt); obtain ⟨j0, j1, j2, j3, j4, j5, j6⟩ := cells7 M2.out G2.out T2.out; clear b2))
      | (go_at_call 9; ((with_reducible refine (CM.out _).mono ?_); rintro e w3 ⟨rfl, b3⟩; have B3 := Lib.hid (B2.out.trans (b3.mono B2.out.size)); have M3 := Lib.hid (M2.out.below b3 M2.out.lt); have G3 := Lib.hid (G2.out.below b3 G2.out.lt); have T3 := Lib.hid (T2.out.below b3 T2.out.lt); obtain ⟨i0, i1, i2, i3, i4, i5, i6⟩ := cells7 M3.out G3.out T3.out; clear b3)))
    go_ret
    exact ⟨rfl, B3.out⟩

  by_cases c4 : mayN ns nl ne = true
  case neg =>
    have c4 : mayN ns nl ne = false := by simpa using c4
    have t3 : ¬ 6 < H := by omega
    rw [c4] at CN
    clear c1 c2 c3 c4 hs hl he ht hN hk
    go_enter Tryd.func4, Tryd.ntmps4
    go_upto_region 1 with (fail)
    clear hw0 hg
    go_wp2_with (first
      | (go_at_call 7; ((with_reducible refine (awake16 M _ (M.bel HK.out B0.out)).mono ?_); rintro e w1 ⟨rfl, b1⟩; have B1 := Lib.hid (B0.out.trans (b1.mono B0.out.size)); have M1 := Lib.hid (M0.out.below b1 M0.out.lt); have G1 := Lib.hid (G0.out.below b1 G0.out.lt); have T1 := Lib.hid (T0.out.below b1 T0.out.lt); obtain ⟨k0, k1, k2, k3, k4, k5, k6⟩ := cells7 M1.out G1.out T1.out; clear b1))
      | (go_at_call 14; ((with_reducible refine (CL.out _).mono ?_); rintro e w2 ⟨rfl, b2⟩; have B2 := Lib.hid (B1.out.trans (b2.mono B1.out.size)); have M2 := Lib.hid (M1.out.below b2 M1.out.lt); have G2 := Lib.hid (G1.out.below b2 G1.out.lt); have T2 := Lib.hid (T1.out.below b2 T1.out.lt); obtain ⟨j0, j1, j2, j3, j4, j5, j6⟩ := cells7 M2.out G2.out T2.out; clear b2))
      | (go_at_call 9; ((with_reducible refine (CM.out _).mono ?_); rintro e w3 ⟨rfl, b3⟩; have B3 := Lib.hid (B2.out.trans (b3.mono B2.out.size)); have M3 := Lib.hid (M2.out.below b3 M2.out.lt); have G3 := Lib.hid (G2.out.below b3 G2.out.lt); have T3 := Lib.hid (T2.out.below b3 T2.out.lt); obtain ⟨i0, i1, i2, i3, i4, i5, i6⟩ := cells7 M3.out G3.out T3.out; clear b3))
      | (go_at_call 15; ((with_reducible refine (CN.out _).mono ?_); rintro e w4 ⟨rfl, b4⟩; have B4 := Lib.hid (B3.out.trans (b4.mono B3.out.size)); have M4 := Lib.hid (M3.out.below b4 M3.out.lt); have G4 := Lib.hid (G3.out.below b4 G3.out.lt); have T4 := Lib.hid (T3.out.below b4 T3.out.lt); obtain ⟨h0, h1, h2, h3, h4, h5, h6⟩ := cells7 M4.out G4.out T4.out; clear b4)))
    go_ret
    exact ⟨rfl, B4.out⟩

  rw [c4] at CN
  by_cases c5 : 2000 < nt
  · have t3 : ¬ 6 < H := by omega
    have t5 : (2000 : Int) < (nt : Int) := by omega
    clear c1 c2 c3 c4 c5 hs hl he ht hN hk
    go_enter Tryd.func4, Tryd.ntmps4
    go_upto_region 1 with (fail)
    clear hw0 hg
    go_wp2_with (first
      | (go_at_call 7; ((with_reducible refine (awake16 M _ (M.bel HK.out B0.out)).mono ?_); rintro e w1 ⟨rfl, b1⟩; have B1 := Lib.hid (B0.out.trans (b1.mono B0.out.size)); have M1 := Lib.hid (M0.out.below b1 M0.out.lt); have G1 := Lib.hid (G0.out.below b1 G0.out.lt); have T1 := Lib.hid (T0.out.below b1 T0.out.lt); obtain ⟨k0, k1, k2, k3, k4, k5, k6⟩ := cells7 M1.out G1.out T1.out; clear b1))
      | (go_at_call 14; ((with_reducible refine (CL.out _).mono ?_); rintro e w2 ⟨rfl, b2⟩; have B2 := Lib.hid (B1.out.trans (b2.mono B1.out.size)); have M2 := Lib.hid (M1.out.below b2 M1.out.lt); have G2 := Lib.hid (G1.out.below b2 G1.out.lt); have T2 := Lib.hid (T1.out.below b2 T1.out.lt); obtain ⟨j0, j1, j2, j3, j4, j5, j6⟩ := cells7 M2.out G2.out T2.out; clear b2))
      | (go_at_call 9; ((with_reducible refine (CM.out _).mono ?_); rintro e w3 ⟨rfl, b3⟩; have B3 := Lib.hid (B2.out.trans (b3.mono B2.out.size)); have M3 := Lib.hid (M2.out.below b3 M2.out.lt); have G3 := Lib.hid (G2.out.below b3 G2.out.lt); have T3 := Lib.hid (T2.out.below b3 T2.out.lt); obtain ⟨i0, i1, i2, i3, i4, i5, i6⟩ := cells7 M3.out G3.out T3.out; clear b3))
      | (go_at_call 15; ((with_reducible refine (CN.out _).mono ?_); rintro e w4 ⟨rfl, b4⟩; have B4 := Lib.hid (B3.out.trans (b4.mono B3.out.size)); have M4 := Lib.hid (M3.out.below b4 M3.out.lt); have G4 := Lib.hid (G3.out.below b4 G3.out.lt); have T4 := Lib.hid (T3.out.below b4 T3.out.lt); obtain ⟨h0, h1, h2, h3, h4, h5, h6⟩ := cells7 M4.out G4.out T4.out; clear b4)))
    go_ret
    exact ⟨rfl, B4.out⟩

  have t3 : ¬ 6 < H := by omega
  have t5 : ¬ (2000 : Int) < (nt : Int) := by omega
  obtain ⟨rfl, rfl, rfl⟩ := mayN_iff.1 c4
  obtain ⟨l, k, rfl, rfl, q1, q2, q3, q4, q5⟩ := mayX_nat c2
  have hmd : madeX l k sec.length salt.length sd.length = true := by rw [hs.len, hl.len, he.len]; exact madeX_iff.2 ⟨c2, c3, rfl, rfl, rfl⟩
  obtain ⟨T, hT⟩ : ∃ T, T = totN l k := ⟨_, rfl⟩
  have hT1 : 1 ≤ T := by rw [hT]; exact Nat.two_pow_pos _
  have hT2 : T ≤ 1152921504606846976 := by rw [hT]; exact Nat.pow_le_pow_right (n := 2) (by omega) (show l * k ≤ 60 from q5)
  obtain ⟨n, hn⟩ : ∃ n, n = N % T := ⟨_, rfl⟩
  have hnT : n < T := by rw [hn]; exact Nat.mod_lt _ hT1
  have n64 : n < 18446744073709551616 := by omega
  obtain ⟨sz, hsz⟩ : ∃ sz, sz = sizeN l k := ⟨_, rfl⟩
  have hsz40 : 40 ≤ sz := by rw [hsz, sizeN]; omega
  have hszb : sz ≤ 1000000 := by have := size_small q2 q4; rw [hsz, sizeN]; omega
  have e1 : pubX l k sec salt sd = pubN sec sd l k := by rw [pubX, if_pos hmd]; rfl
  have htl : text.length ≤ 65536 := by rw [ht.len]; omega
  have e2 : sigX l k sec salt sd n text = sigN sec salt sd l k n text := by rw [sigX, if_pos ⟨hmd, htl, by show n < totN l k; omega⟩]; rfl
  have e3 : codeX l k sec salt sd n text = 0 := by rw [codeX, if_pos ⟨hmd, htl⟩, if_pos (by show n < totN l k; omega)]
  have l1 : (pubN sec sd l k).length = 64 := pub_len _ _ _ _ he.len
  have l2 : (sigN sec salt sd l k n text).length = sz := by rw [hsz]; exact sig_len _ _ _ _ _ _ _
  have t8 : (sigN sec salt sd l k n text).take 8 = putL n 8 := by
    simp only [sigN, List.flatten_cons, List.flatten_nil, List.append_nil, List.append_assoc]
    exact List.take_left' (putL_length n 8)
  have e6 : fitX l k (pubN sec sd l k) text (sigN sec salt sd l k n text) = true := by
    rw [fitX, if_pos ⟨c2, l1, by rw [l2, hsz]; rfl, htl⟩]
    exact fits_signed sec salt sd l k n text he.len q1 (by omega) q5 (putL_mod16 n n64)
  have e7 : fitX l k (pubN sec sd l k) text ((sigN sec salt sd l k n text).take (sz - 1)) = false := cut_unfit l k _ _ _ (by
    rw [List.length_take, l2, sizeX_may c2, ← hsz]
    omega)
  generalize pubN sec sd l k = PB at *
  generalize sigN sec salt sd l k n text = SG at *
  have CTO := Lib.hid (show ∀ X, Calls Tryd.prog 11 #[.agg #[.int .i64 (l : Int), .int .i64 (k : Int)]] X (GivesV (.int .u64 (T : Int)) X) from fun X => by rw [hT, totN, ← totX_may c2 rfl]; exact rtot_any l k X)
  have CSZ := Lib.hid (show ∀ X, Calls Tryd.prog 13 #[.agg #[.int .i64 (l : Int), .int .i64 (k : Int)]] X (GivesV (.int .i64 (sz : Int)) X) from fun X => by rw [hsz, ← sizeX_may c2]; exact rsize_any l k X)
  have CPU := Lib.hid (show ∀ X, Below w.heap.size w X → Calls Tryd.prog 16 #[.agg #[.int .i64 (l : Int), .int .i64 (k : Int)], .agg #[.slice As 32 cs, .slice Al 32 cl, .slice Ae 32 ce]] X (GivesN X 64 PB) from fun X hX => by
    have h9 := M.pub l k As 32 cs sec Al 32 cl salt Ae 32 ce sd X (M.bel hk hX) (hs.below hX) (hl.below hX) (he.below hX)
    rw [e1] at h9
    exact h9.mono fun _ _ h => givesN h l1)
  have CSG := Lib.hid (show ∀ X, Below w.heap.size w X → Calls Tryd.prog 17 #[.agg #[.int .i64 (l : Int), .int .i64 (k : Int)], .agg #[.slice As 32 cs, .slice Al 32 cl, .slice Ae 32 ce], .int .u64 (n : Int), .slice At nt ct] X (GivesSN X sz SG 0) from fun X hX => by
    have h9 := M.sign l k As 32 cs sec Al 32 cl salt Ae 32 ce sd n At nt ct text X (M.bel hk hX) (hs.below hX) (hl.below hX) (he.below hX) n64 (ht.below hX)
    rw [e2, e3] at h9
    exact h9.mono fun _ _ h => givesSN h l2)
  have CFT := Lib.hid (show ∀ X A c A' c', Below w.heap.size w X → Rd X A 64 c PB → Rd X A' sz c' SG → Calls Tryd.prog 18 #[.agg #[.int .i64 (l : Int), .int .i64 (k : Int)], .slice A 64 c, .slice At nt ct, .slice A' sz c'] X (GivesB true X) from fun X A c A' c' hX h1 h2 => by
    have h9 := M.fits l k A 64 c PB At nt ct text A' sz c' SG X (M.bel hk hX) h1 (ht.below hX) h2
    rw [e6] at h9
    exact h9)
  obtain ⟨sy, hsy⟩ : ∃ sy, sy = sz - 1 := ⟨_, rfl⟩
  have CFN := Lib.hid (show ∀ X A c A' c', Below w.heap.size w X → Rd X A 64 c PB → Rd X A' sz c' SG → Calls Tryd.prog 18 #[.agg #[.int .i64 (l : Int), .int .i64 (k : Int)], .slice A 64 c, .slice At nt ct, .slice A' sy c'] X (GivesB false X) from fun X A c A' c' hX h1 h2 => by
    have h9 := M.fits l k A 64 c PB At nt ct text A' sy c' _ X (M.bel hk hX) h1 (ht.below hX) (h2.take (k := sy) (by omega))
    rw [hsy, e7] at h9
    rw [hsy]
    exact h9)
  have CGE := Lib.hid (show ∀ X A c, Rd X A sz c SG → Calls Tryd.prog 19 #[.slice A 8 c] X fun e w' => e = .returned (.tuple #[.int .u64 (n : Int), .bool true]) ∧ X = w' from fun X A c h => by
    have h9 := rget_any16 A 8 c _ X (by omega) (h.take (k := 8) (by omega))
    rw [t8, putL_mod16 n n64] at h9
    exact h9)
  have x1 : (N : Int) % (T : Int) = (n : Int) := by rw [hn]; simp
  have x2 : (N : Int).tmod (T : Int) = (n : Int) := by rw [Int.tmod_eq_emod_of_nonneg (by omega)]; exact x1
  have x3 : ¬ (T : Int) = 0 := by omega
  have x4 : ¬ T = 0 := by omega
  have x5 : IntKind.i64.wrap ((sz : Int) - 1) = (sy : Int) := by rw [IntKind.wrap_i64]; omega
  have x6 : ((sz : Int) != (sz : Int)) = false := by simp
  have x7 : ((n : Int) == (n : Int)) = true := by simp
  have HSY := Lib.hid (show sy ≤ sz ∧ 8 ≤ sz from ⟨by omega, by omega⟩)
  clear hs hl he ht hN hk c1 c2 c3 c4 c5 q1 q2 q3 q4 q5 hmd hT hT1 hT2 hn hnT n64 hsz hsz40 hszb e1 e2 e3 e6 e7 l1 l2 t8 htl hsy
  go_enter Tryd.func4, Tryd.ntmps4
  go_upto_region 1 with (fail)
  clear hw0 hg
  go_upto_region 5 with (first
    | (go_at_call 7; ((with_reducible refine (awake16 M _ (M.bel HK.out B0.out)).mono ?_); rintro e w1 ⟨rfl, b1⟩; have B1 := Lib.hid (B0.out.trans (b1.mono B0.out.size)); have M1 := Lib.hid (M0.out.below b1 M0.out.lt); have G1 := Lib.hid (G0.out.below b1 G0.out.lt); have T1 := Lib.hid (T0.out.below b1 T0.out.lt); obtain ⟨k0, k1, k2, k3, k4, k5, k6⟩ := cells7 M1.out G1.out T1.out; clear b1))
    | (go_at_call 14; ((with_reducible refine (CL.out _).mono ?_); rintro e w2 ⟨rfl, b2⟩; have B2 := Lib.hid (B1.out.trans (b2.mono B1.out.size)); have M2 := Lib.hid (M1.out.below b2 M1.out.lt); have G2 := Lib.hid (G1.out.below b2 G1.out.lt); have T2 := Lib.hid (T1.out.below b2 T1.out.lt); obtain ⟨j0, j1, j2, j3, j4, j5, j6⟩ := cells7 M2.out G2.out T2.out; clear b2))
    | (go_at_call 9; ((with_reducible refine (CM.out _).mono ?_); rintro e w3 ⟨rfl, b3⟩; have B3 := Lib.hid (B2.out.trans (b3.mono B2.out.size)); have M3 := Lib.hid (M2.out.below b3 M2.out.lt); have G3 := Lib.hid (G2.out.below b3 G2.out.lt); have T3 := Lib.hid (T2.out.below b3 T2.out.lt); obtain ⟨i0, i1, i2, i3, i4, i5, i6⟩ := cells7 M3.out G3.out T3.out; clear b3))
    | (go_at_call 15; ((with_reducible refine (CN.out _).mono ?_); rintro e w4 ⟨rfl, b4⟩; have B4 := Lib.hid (B3.out.trans (b4.mono B3.out.size)); have M4 := Lib.hid (M3.out.below b4 M3.out.lt); have G4 := Lib.hid (G3.out.below b4 G3.out.lt); have T4 := Lib.hid (T3.out.below b4 T3.out.lt); obtain ⟨h0, h1, h2, h3, h4, h5, h6⟩ := cells7 M4.out G4.out T4.out; clear b4)))
  clear k0 k1 k2 k3 k4 k5 k6 j0 j1 j2 j3 j4 j5 j6 i0 i1 i2 i3 i4 i5 i6 h0 h1 h2 h3 h4 h5 h6
  have KS := Lib.hid (show ∀ X, Below w4.heap.size w4 X → X.cell? ⟨g, 0, none⟩ = some (.int .i64 (l : Int)) ∧ X.cell? ⟨g, 1, none⟩ = some (.int .i64 (k : Int)) ∧ X.cell? ⟨g + 1, 0, none⟩ = some (.slice As 32 cs) ∧ X.cell? ⟨g + 1, 1, none⟩ = some (.slice Al 32 cl) ∧ X.cell? ⟨g + 1, 2, none⟩ = some (.slice Ae 32 ce) ∧ X.cell? ⟨g + 2, 0, none⟩ = some (.int .u64 (N : Int)) ∧ X.cell? ⟨g + 2, 1, none⟩ = some (.slice At nt ct) from fun X hX => cells7 (M4.out.below hX M4.out.lt) (G4.out.below hX G4.out.lt) (T4.out.below hX T4.out.lt))
  have NX := Lib.hid (show ∀ X Y, Below w4.heap.size w4 X → Below X.heap.size X Y → Below w4.heap.size w4 Y from fun X Y h h' => h.trans (h'.mono h.size))
  have BW := Lib.hid (show ∀ X, Below w4.heap.size w4 X → Below w.heap.size w X from fun X hX => B4.out.trans (hX.mono B4.out.size))
  refine wp_region_steady (fun X => Below w4.heap.size w4 X) (by kernel_rfl) (by kernel_rfl) (Below.refl _ _).drew ?_
  repeat (first | (refine seq_pure (v := ?_) (by rfl) ?_ ?_; rotate_left; (· (intro w' hS; obtain ⟨c0, c1, c2, c3, c4, c5, c6⟩ := KS.out w' hS; go_simp; try with_reducible rfl)); simp only [Act.put, List.setIfInBounds_toArray, List.set_cons_zero, List.set_cons_succ]) | fail)
  refine seq_call (f := 11) (args := #[.agg #[.int .i64 (l : Int), .int .i64 (k : Int)]]) (v := .int .u64 (T : Int)) (by rfl) ?_ ?_ ?_
  · intro w' hS; obtain ⟨c0, c1, c2, c3, c4, c5, c6⟩ := KS.out w' hS; go_simp
  · intro w' hS; exact (CTO.out _).mono fun e w'' ⟨h1, h2⟩ => ⟨h1, NX.out _ _ hS h2⟩
  simp only [Act.put, List.setIfInBounds_toArray, List.set_cons_zero, List.set_cons_succ]
  repeat (first | (refine seq_pure (v := ?_) (by rfl) ?_ ?_; rotate_left; (· (intro w' hS; obtain ⟨c0, c1, c2, c3, c4, c5, c6⟩ := KS.out w' hS; go_simp; try with_reducible rfl)); simp only [Act.put, List.setIfInBounds_toArray, List.set_cons_zero, List.set_cons_succ]) | fail)
  refine seq_nil ?_
  intro w5 s5
  have B5 := Lib.hid s5
  obtain ⟨k0, k1, k2, k3, k4, k5, k6⟩ := KS.out _ s5
  clear s5
  go_upto_region 7 with (go_at_call 16; ((with_reducible refine (CPU.out _ (BW.out _ B5.out)).mono ?_); rintro e w6 ⟨A6, c6, rfl, r6, b6⟩; have P6 := Lib.hid r6; have B6 := Lib.hid (NX.out _ _ B5.out b6); clear r6 b6))
  clear k0 k1 k2 k3 k4 k5 k6
  obtain ⟨k0, k1, k2, k3, k4, k5, k6⟩ := KS.out _ B6.out
  go_upto_region 8 with (go_at_call 17; ((with_reducible refine (CSG.out _ (BW.out _ B6.out)).mono ?_); rintro e w7 ⟨A7, c7, rfl, r7, b7⟩; have S7 := Lib.hid r7; have P7 := Lib.hid (P6.out.below b7); have B7 := Lib.hid (NX.out _ _ B6.out b7); clear r7 b7))
  clear k0 k1 k2 k3 k4 k5 k6
  obtain ⟨k0, k1, k2, k3, k4, k5, k6⟩ := KS.out _ B7.out
  have hcp7 := S7.out.cap
  have C1 : ∀ W, (Instr.slice 29 (.slice A7 sz c7) none (some (.int .i64 8)) none).run Tryd.prog W = .ok (.slice A7 8 c7) W := fun W => run_cutSlH (m := 8) rfl (by have := HSY.out; omega) W
  have C2 : ∀ W, (Instr.sliceAt 29 (.slice A7 sz c7) none (some (.int .i64 8)) none).run Tryd.prog W = .ok (.slice A7 8 c7) W := fun W => run_cutSlHAt (m := 8) rfl (by have := HSY.out; omega) W
  have D1 : ∀ W, (Instr.slice 29 (.slice A7 sz c7) none (some (.int .i64 (sy : Int))) none).run Tryd.prog W = .ok (.slice A7 sy c7) W := fun W => run_cutSlH (m := sy) rfl (by have := HSY.out; omega) W
  have D2 : ∀ W, (Instr.sliceAt 29 (.slice A7 sz c7) none (some (.int .i64 (sy : Int))) none).run Tryd.prog W = .ok (.slice A7 sy c7) W := fun W => run_cutSlHAt (m := sy) rfl (by have := HSY.out; omega) W
  clear hcp7
  go_upto_region 11 with (first
    | (go_at_call 13; ((with_reducible refine (CSZ.out _).mono ?_); rintro e w8 ⟨rfl, b8⟩; have B8 := Lib.hid (NX.out _ _ B7.out b8); have S8 := Lib.hid (S7.out.below b8); have P8 := Lib.hid (P7.out.below b8); obtain ⟨j0, j1, j2, j3, j4, j5, j6⟩ := KS.out _ B8.out; clear b8))
    | (go_at_call 18; ((with_reducible refine (CFT.out _ A6 c6 A7 c7 (BW.out _ B8.out) P8.out S8.out).mono ?_); rintro e w9 ⟨rfl, b9⟩; have B9 := Lib.hid (NX.out _ _ B8.out b9); have S9 := Lib.hid (S8.out.below b9); have P9 := Lib.hid (P8.out.below b9); clear b9))
    | (go_at_call 19; ((with_reducible refine (CGE.out _ A7 c7 S9.out).mono ?_); rintro e w10 ⟨rfl, rfl⟩)))
  clear k0 k1 k2 k3 k4 k5 k6 j0 j1 j2 j3 j4 j5 j6
  have KT := Lib.hid (show ∀ X, (Below w4.heap.size w4 X ∧ Rd X A6 64 c6 PB ∧ Rd X A7 sz c7 SG) → X.cell? ⟨g, 0, none⟩ = some (.int .i64 (l : Int)) ∧ X.cell? ⟨g, 1, none⟩ = some (.int .i64 (k : Int)) ∧ X.cell? ⟨g + 1, 0, none⟩ = some (.slice As 32 cs) ∧ X.cell? ⟨g + 1, 1, none⟩ = some (.slice Al 32 cl) ∧ X.cell? ⟨g + 1, 2, none⟩ = some (.slice Ae 32 ce) ∧ X.cell? ⟨g + 2, 0, none⟩ = some (.int .u64 (N : Int)) ∧ X.cell? ⟨g + 2, 1, none⟩ = some (.slice At nt ct) from fun X hX => KS.out X hX.1)
  refine wp_region_steady (fun X => Below w4.heap.size w4 X ∧ Rd X A6 64 c6 PB ∧ Rd X A7 sz c7 SG) (by kernel_rfl) (by kernel_rfl) ⟨B9.out.drew, P9.out.drew, S9.out.drew⟩ ?_
  repeat (first | (refine seq_pure (v := ?_) (by rfl) ?_ ?_; rotate_left; (· (intro w' hS; obtain ⟨c0, c1, c2, c3, c4, c5, c6⟩ := KT.out w' hS; clear hS; go_simp; try with_reducible rfl)); simp only [Act.put, List.setIfInBounds_toArray, List.set_cons_zero, List.set_cons_succ]) | fail)
  refine seq_call (f := 18) (args := #[.agg #[.int .i64 (l : Int), .int .i64 (k : Int)], .slice A6 64 c6, .slice At nt ct, .slice A7 sy c7]) (v := .bool false) (by rfl) ?_ ?_ ?_
  · intro w' hS; obtain ⟨c0, c1, c2, c3, c4, c5, c6⟩ := KT.out w' hS; clear hS; go_simp
  · intro w' hS; exact (CFN.out _ A6 c6 A7 c7 (BW.out _ hS.1) hS.2.1 hS.2.2).mono fun e w'' ⟨h1, h2⟩ => ⟨h1, NX.out _ _ hS.1 h2, hS.2.1.below h2, hS.2.2.below h2⟩
  simp only [Act.put, List.setIfInBounds_toArray, List.set_cons_zero, List.set_cons_succ]
  repeat (first | (refine seq_pure (v := ?_) (by rfl) ?_ ?_; rotate_left; (· (intro w' hS; obtain ⟨c0, c1, c2, c3, c4, c5, c6⟩ := KT.out w' hS; clear hS; go_simp; try with_reducible rfl)); simp only [Act.put, List.setIfInBounds_toArray, List.set_cons_zero, List.set_cons_succ]) | fail)
  refine seq_nil ?_
  rintro w11 ⟨s11, _, _⟩
  have B11 := Lib.hid s11
  clear s11
  go_wp2
  go_ret
  exact ⟨rfl, BW.out _ B11.out⟩
end Go.Proofs.YtkpfppiedadmbaaDoor.S16
