/-
  Texts put together: XmS, Yf1. No statement is proved here.
-/
import Derived.Test.YtkpfppiedadmbaaGreatDoorWn36
import Derived.Test.YtkpfppiedadmbaaGreatDoorWn18
import Derived.Test.YtkpfppiedadmbaaGreatDoorWn23

/-
  The walk of layer 16's fourth statement. No statement is proved here. (Written by genxms.py.)
-/
namespace Go.Proofs.YtkpfppiedadmbaaGreatDoor.S16
set_option linter.unusedSimpArgs false
set_option linter.unusedVariables false
set_option maxRecDepth 4096
open Go.RowKit S15

def lightX (L H : Int) : Bool := !mayX L H || (decide (6 < H) || (decide (H ≤ 2) && decide (L ≤ 2)))
set_option maxHeartbeats 2000000 in
theorem rlight_any (L H : Int) (w : World) : Calls Tryz.prog 6 #[.agg (shA L H)] w (GivesB (lightX L H) w) := by
  have HM := Lib.hid (show ∀ X, Calls Tryz.prog 19 #[.agg #[.int .i64 L, .int .i64 H]] X (GivesB (mayX L H) X) from fun X => rmay16_any L H X)
  obtain ⟨g, hg⟩ : ∃ g, w.heap.size = g := ⟨_, rfl⟩
  obtain ⟨w0, hw0⟩ : ∃ w0, w.alloc (.cells (shA L H) 23) = w0 := ⟨_, rfl⟩
  have M0 := Lib.hid (show Bk w0 g 23 (shA L H) by rw [← hw0, ← hg]; exact Bk.new _ _ _)
  have B0 := Lib.hid (show Below w.heap.size w w0 by rw [← hw0]; exact (Below.refl _ _).alloc (Nat.le_refl _) _)
  have k0 : w0.cell? ⟨g, 0, none⟩ = some (.int .i64 L) := M0.out.cell 0
  have k1 : w0.cell? ⟨g, 1, none⟩ = some (.int .i64 H) := M0.out.cell 1
  by_cases c : mayX L H = true
  · rw [c] at HM
    by_cases c6 : 6 < H
    · have e : lightX L H = true := by simp [lightX, c6]
      rw [e]
      clear e c
      go_enter Tryz.func6, Tryz.ntmps6
      go_upto_region 1 with (fail)
      clear hw0 hg
      go_wp2_with (go_at_call 19; ((with_reducible refine (HM.out _).mono ?_); rintro e w1 ⟨rfl, b1⟩; have B1 := Lib.hid (B0.out.trans (b1.mono B0.out.size)); have M1 := M0.out.below b1 M0.out.lt; have j0 := M1.cell 0; have j1 := M1.cell 1; simp only [List.getElem?_toArray, List.getElem?_cons_zero, List.getElem?_cons_succ] at j0 j1; clear b1 M1))
      go_ret
      exact ⟨rfl, B1.out⟩
    · by_cases c2 : H ≤ 2
      · have d6 : decide ((6 : Int) < H) = false := by simpa using c6
        have e : lightX L H = decide (L ≤ 2) := by simp [lightX, c, c2, c6]
        rw [e]
        clear e c
        go_enter Tryz.func6, Tryz.ntmps6
        go_upto_region 1 with (fail)
        clear hw0 hg
        go_wp2_with (go_at_call 19; ((with_reducible refine (HM.out _).mono ?_); rintro e w1 ⟨rfl, b1⟩; have B1 := Lib.hid (B0.out.trans (b1.mono B0.out.size)); have M1 := M0.out.below b1 M0.out.lt; have j0 := M1.cell 0; have j1 := M1.cell 1; simp only [List.getElem?_toArray, List.getElem?_cons_zero, List.getElem?_cons_succ] at j0 j1; clear b1 M1))
        go_ret
        exact ⟨rfl, B1.out⟩
      · have d6 : decide ((6 : Int) < H) = false := by simpa using c6
        have e : lightX L H = false := by simp [lightX, c, c2, c6]
        rw [e]
        clear e c
        go_enter Tryz.func6, Tryz.ntmps6
        go_upto_region 1 with (fail)
        clear hw0 hg
        go_wp2_with (go_at_call 19; ((with_reducible refine (HM.out _).mono ?_); rintro e w1 ⟨rfl, b1⟩; have B1 := Lib.hid (B0.out.trans (b1.mono B0.out.size)); have M1 := M0.out.below b1 M0.out.lt; have j0 := M1.cell 0; have j1 := M1.cell 1; simp only [List.getElem?_toArray, List.getElem?_cons_zero, List.getElem?_cons_succ] at j0 j1; clear b1 M1))
        go_ret
        exact ⟨rfl, B1.out⟩
  · have c : mayX L H = false := by simpa using c
    have e : lightX L H = true := by simp [lightX, c]
    rw [e]
    rw [c] at HM
    clear e c
    go_enter Tryz.func6, Tryz.ntmps6
    go_upto_region 1 with (fail)
    clear hw0 hg
    go_wp2_with (go_at_call 19; ((with_reducible refine (HM.out _).mono ?_); rintro e w1 ⟨rfl, b1⟩; have B1 := Lib.hid (B0.out.trans (b1.mono B0.out.size)); have M1 := M0.out.below b1 M0.out.lt; have j0 := M1.cell 0; have j1 := M1.cell 1; simp only [List.getElem?_toArray, List.getElem?_cons_zero, List.getElem?_cons_succ] at j0 j1; clear b1 M1))
    go_ret
    exact ⟨rfl, B1.out⟩
theorem rget_step16 (xs : List UInt8) (k : Nat) (hk : k < xs.length) (h8 : k < 8) :
    IntKind.u64.wrap (IntKind.u64.wrap ((getL (xs.take k) : Nat) * 256) + IntKind.u64.wrap ((xs[k]?.getD 0).toNat : Int)) = (getL (xs.take (k + 1)) : Nat) := by
  have hg := getL_lt (xs.take k)
  rw [List.length_take, Nat.min_eq_left (by omega)] at hg
  have h7 : 256 ^ k ≤ 256 ^ 7 := Nat.pow_le_pow_right (by omega) (by omega)
  have hc := (xs[k]'hk).toNat_lt
  rw [List.take_succ_eq_append_getElem hk, getL_snoc, List.getElem?_eq_getElem hk, Option.getD_some]
  simp only [IntKind.wrap_u64]
  omega

theorem rget_any16 (A : Option Addr) (n c : Nat) (xs : List UInt8) (w : World) (hn : n ≤ 8) (h : Rd w A n c xs) :
    Calls Tryz.prog 49 #[.slice A n c] w fun e w' => e = .returned (.tuple #[.int .u64 (getL xs : Nat), .bool true]) ∧ w = w' := by
  go_enter Tryz.func49, Tryz.ntmps49
  go_wp2
  go_loop [4, 5] (fun v i => ∃ k : Nat, k ≤ n ∧ i = .int .i64 k ∧ v = .int .u64 (getL (xs.take k) : Nat)) (fun _ i => n - (intOf i).toNat)
  case atStart => exact ⟨0, Nat.zero_le _, rfl, rfl⟩
  case round =>
    obtain ⟨k, hk, rfl, rfl⟩ := hrel
    by_cases hlt : k < n
    · obtain ⟨b, off, rfl, hb, hcell⟩ := h.at_ (by omega)
      have hc := hcell k hlt
      clear hcell
      go_wp2
      go_round
      case rel =>
        exact ⟨k + 1, by omega, by go_num, by rw [← rget_step16 xs k (by have := h.len; omega) (by omega)]⟩
      case measure => simp [intOf]; omega
    · obtain rfl : k = n := by omega
      go_wp2
      go_ret2
      have e := h.len
      exact ⟨by rw [List.take_of_length_le (by omega)]; rfl, rfl⟩
abbrev toA (N : Nat) (At : Option Addr) (nt ct : Nat) : Array Value := #[.int .u64 (N : Int), .slice At nt ct]
/-- What the arguments are, boxed. -/
theorem sh3 {w : World} {L H : Int} {As Al Ae At : Option Addr} {ns cs nl cl ne ce N nt ct : Nat} {g : Nat} {w0 : World} (hg : w.heap.size = g) (hw : ((w.alloc (.cells (shA L H) 23)).alloc (.cells (mkA As ns cs Al nl cl Ae ne ce) 26)).alloc (.cells (toA N At nt ct) 29) = w0) :
    Bk w0 g 23 (shA L H) ∧ Bk w0 (g + 1) 26 (mkA As ns cs Al nl cl Ae ne ce) ∧ Bk w0 (g + 2) 29 (toA N At nt ct) ∧ Below w.heap.size w w0 := by
  obtain ⟨h1, h2, h3⟩ := sh_m (w := w) (L := L) (H := H) (As := As) (ns := ns) (cs := cs) (Al := Al) (nl := nl) (cl := cl) (Ae := Ae) (ne := ne) (ce := ce) hg
  rw [← hw]
  exact ⟨h1.alloc _, h2.alloc _, Bk.newAt _ _ _ _ (by simp [hg]), h3.alloc h3.size _⟩
theorem cells7 {w : World} {g : Nat} {L H : Int} {As Al Ae At : Option Addr} {ns cs nl cl ne ce N nt ct : Nat} (h : Bk w g 23 (shA L H)) (h' : Bk w (g + 1) 26 (mkA As ns cs Al nl cl Ae ne ce)) (h'' : Bk w (g + 2) 29 (toA N At nt ct)) :
    w.cell? ⟨g, 0, none⟩ = some (.int .i64 L) ∧ w.cell? ⟨g, 1, none⟩ = some (.int .i64 H) ∧ w.cell? ⟨g + 1, 0, none⟩ = some (.slice As ns cs) ∧ w.cell? ⟨g + 1, 1, none⟩ = some (.slice Al nl cl) ∧ w.cell? ⟨g + 1, 2, none⟩ = some (.slice Ae ne ce) ∧ w.cell? ⟨g + 2, 0, none⟩ = some (.int .u64 (N : Int)) ∧ w.cell? ⟨g + 2, 1, none⟩ = some (.slice At nt ct) :=
  ⟨h.cell 0, h.cell 1, h'.cell 0, h'.cell 1, h'.cell 2, h''.cell 0, h''.cell 1⟩
end Go.Proofs.YtkpfppiedadmbaaGreatDoor.S16

/-
  The document's own Fits of layer 16: where the shape, the lengths or the index don't allow it. No statement is proved here.
-/
namespace Go.Proofs.YtkpfppiedadmbaaGreatDoor.S16
set_option linter.unusedSimpArgs false
set_option linter.unusedVariables false
set_option maxRecDepth 4096
open Go.RowKit S15

set_option maxHeartbeats 4000000 in
theorem rfits_not (L H : Int) (Ap : Option Addr) (np cp : Nat) (At : Option Addr) (nt ct : Nat) (Ag : Option Addr) (ng cg : Nat) (w : World) (h : mayX L H = false ∨ np ≠ 64 ∨ ng ≠ sizeX L H ∨ 65536 < nt) :
    Calls Tryz.prog 15 #[.agg (shA L H), .slice Ap np cp, .slice At nt ct, .slice Ag ng cg] w (GivesB false w) := by
  have CM := Lib.hid (show ∀ X, Calls Tryz.prog 19 #[.agg #[.int .i64 L, .int .i64 H]] X (GivesB (mayX L H) X) from fun X => rmay16_any L H X)
  have CS := Lib.hid (show ∀ X, Calls Tryz.prog 48 #[.agg #[.int .i64 L, .int .i64 H]] X (GivesV (.int .i64 (sizeX L H : Int)) X) from fun X => rsize_any L H X)
  obtain ⟨g, hg⟩ : ∃ g, w.heap.size = g := ⟨_, rfl⟩
  obtain ⟨w0, hw0⟩ : ∃ w0, w.alloc (.cells (shA L H) 23) = w0 := ⟨_, rfl⟩
  have M0 := Lib.hid (show Bk w0 g 23 (shA L H) by rw [← hw0, ← hg]; exact Bk.new _ _ _)
  have B0 := Lib.hid (show Below w.heap.size w w0 by rw [← hw0]; exact (Below.refl _ _).alloc (Nat.le_refl _) _)
  have k0 : w0.cell? ⟨g, 0, none⟩ = some (.int .i64 L) := M0.out.cell 0
  have k1 : w0.cell? ⟨g, 1, none⟩ = some (.int .i64 H) := M0.out.cell 1
  generalize sizeX L H = sz at *
  by_cases c1 : mayX L H = true
  case neg =>
    have c1 : mayX L H = false := by simpa using c1
    rw [c1] at CM
    clear h c1
    go_enter Tryz.func15, Tryz.ntmps15
    go_upto_region 1 with (fail)
    clear hw0 hg
    go_wp2_with ((go_at_call 19; ((with_reducible refine (CM.out _).mono ?_); rintro e w1 ⟨rfl, b1⟩; have B1 := Lib.hid (B0.out.trans (b1.mono B0.out.size)); have M1 := Lib.hid (M0.out.below b1 M0.out.lt); have j1 := M1.out.cell 0; have i1 := M1.out.cell 1; simp only [List.getElem?_toArray, List.getElem?_cons_zero, List.getElem?_cons_succ] at j1 i1; clear b1)))
    go_ret
    exact ⟨rfl, B1.out⟩
  rw [c1] at CM
  by_cases c2 : np = 64
  case neg =>
    have t2 : ¬ (np : Int) = 64 := by omega
    clear h c1 c2
    go_enter Tryz.func15, Tryz.ntmps15
    go_upto_region 1 with (fail)
    clear hw0 hg
    go_wp2_with ((go_at_call 19; ((with_reducible refine (CM.out _).mono ?_); rintro e w1 ⟨rfl, b1⟩; have B1 := Lib.hid (B0.out.trans (b1.mono B0.out.size)); have M1 := Lib.hid (M0.out.below b1 M0.out.lt); have j1 := M1.out.cell 0; have i1 := M1.out.cell 1; simp only [List.getElem?_toArray, List.getElem?_cons_zero, List.getElem?_cons_succ] at j1 i1; clear b1)))
    go_ret
    exact ⟨rfl, B1.out⟩
  subst c2
  by_cases c3 : ng = sz
  case neg =>
    have t3 : ¬ (ng : Int) = (sz : Int) := by omega
    clear h c1 c3
    go_enter Tryz.func15, Tryz.ntmps15
    go_upto_region 1 with (fail)
    clear hw0 hg
    go_wp2_with (first
      | (go_at_call 19; ((with_reducible refine (CM.out _).mono ?_); rintro e w1 ⟨rfl, b1⟩; have B1 := Lib.hid (B0.out.trans (b1.mono B0.out.size)); have M1 := Lib.hid (M0.out.below b1 M0.out.lt); have j1 := M1.out.cell 0; have i1 := M1.out.cell 1; simp only [List.getElem?_toArray, List.getElem?_cons_zero, List.getElem?_cons_succ] at j1 i1; clear b1))
      | (go_at_call 48; ((with_reducible refine (CS.out _).mono ?_); rintro e w2 ⟨rfl, b2⟩; have B2 := Lib.hid (B1.out.trans (b2.mono B1.out.size)); have M2 := Lib.hid (M1.out.below b2 M1.out.lt); have j2 := M2.out.cell 0; have i2 := M2.out.cell 1; simp only [List.getElem?_toArray, List.getElem?_cons_zero, List.getElem?_cons_succ] at j2 i2; clear b2)))
    go_ret
    exact ⟨rfl, B2.out⟩
  subst c3
  have t4 : (65536 : Int) < (nt : Int) := by
    rcases h with h | h | h | h
    · rw [h] at c1; cases c1
    · exact absurd rfl h
    · exact absurd rfl h
    · omega
  clear h c1
  go_enter Tryz.func15, Tryz.ntmps15
  go_upto_region 1 with (fail)
  clear hw0 hg
  go_wp2_with (first
    | (go_at_call 19; ((with_reducible refine (CM.out _).mono ?_); rintro e w1 ⟨rfl, b1⟩; have B1 := Lib.hid (B0.out.trans (b1.mono B0.out.size)); have M1 := Lib.hid (M0.out.below b1 M0.out.lt); have j1 := M1.out.cell 0; have i1 := M1.out.cell 1; simp only [List.getElem?_toArray, List.getElem?_cons_zero, List.getElem?_cons_succ] at j1 i1; clear b1))
    | (go_at_call 48; ((with_reducible refine (CS.out _).mono ?_); rintro e w2 ⟨rfl, b2⟩; have B2 := Lib.hid (B1.out.trans (b2.mono B1.out.size)); have M2 := Lib.hid (M1.out.below b2 M1.out.lt); have j2 := M2.out.cell 0; have i2 := M2.out.cell 1; simp only [List.getElem?_toArray, List.getElem?_cons_zero, List.getElem?_cons_succ] at j2 i2; clear b2)))
  go_ret
  exact ⟨rfl, B2.out⟩
end Go.Proofs.YtkpfppiedadmbaaGreatDoor.S16
