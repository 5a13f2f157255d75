/-
  Texts put together: XmE, XmF. No statement is proved here.
-/
import Derived.Test.YtkpfppiedadmbaaGreatDoorWn30
import Derived.Test.YtkpfppiedadmbaaGreatDoorWn33
import Derived.Test.YtkpfppiedadmbaaGreatDoorWn02
import Derived.RegionTactic
import Derived.ChangeAlike

/-
  The landed package xmss: whether a signature fits. No statement is proved here.
-/
namespace Go.Proofs.YtkpfppiedadmbaaGreatDoor.S16
set_option linter.unusedSimpArgs false
set_option linter.unusedVariables false
set_option maxRecDepth 1024
open Go.RowKit Go.Shelf S15 RD
attribute [local go_sem] Oper.semAt_some

/-- 'string(b)' of bytes that read. -/
theorem rd_convert {w : World} {A : Option Addr} {n c : Nat} {xs : List UInt8} (h : Rd w A n c xs) :
    (convert 24 9 (.slice A n c)).run Tryz.prog w = .ok (.string ⟨xs.toArray⟩) w := by
  rcases Nat.eq_zero_or_pos n with hn | hn
  · subst hn
    obtain rfl : xs = [] := List.eq_nil_of_length_eq_zero h.len
    rw [run_convert_bytes_string w 24 9 5 _ 0 c Tryz.underlying24 Tryz.underlying5 Tryz.underlying9]
    cases A <;> simp [Conv.bytesToString, loadCells]
    all_goals rfl
  · obtain ⟨b, o, rfl, _, hc⟩ := h.at_ hn
    have e := run_convert_bytes_arg (P := Tryz.prog) w 24 5 Tryz.underlying24 Tryz.underlying5 b o n c (xs.map fun x => (x.toNat : Int)) (by simp [h.len])
      (fun i hi => by
        have hl : i < xs.length := by have := h.len; omega
        rw [hc i hi]; simp [List.getD, hl]) 9 Tryz.underlying9
    rw [e]
    have : strOfNums (xs.map fun x => (x.toNat : Int)) = ⟨xs.toArray⟩ := by
      simp [strOfNums, Function.comp_def]
    rw [this]
def sameX (xs ys : List UInt8) : Bool := xs == ys
theorem equalX (A A' : Option Addr) (n c n' c' : Nat) (xs ys : List UInt8) (w : World) (h : Rd w A n c xs) (h' : Rd w A' n' c' ys) :
    Calls Tryz.prog 76 #[.slice A n c, .slice A' n' c'] w fun e w' => e = .returned (.bool (sameX xs ys)) ∧ w = w' := by
  have c1 := rd_convert h
  have c2 := rd_convert h'
  go_enter Tryz.func76, Tryz.ntmps76
  go_wp2
  go_ret
  exact ⟨rfl, rfl⟩
theorem same16 (A A' : Option Addr) (n c n' c' : Nat) (xs ys : List UInt8) (w : World) (h : Rd w A n c xs) (h' : Rd w A' n' c' ys) :
    Calls Tryz.prog 47 #[.slice A n c, .slice A' n' c'] w fun e w' => e = .returned (.bool (sameX xs ys)) ∧ w = w' := by
  go_enter Tryz.func47, Tryz.ntmps47
  go_wp2_with (go_at_call 76; refine (equalX A A' n c n' c' xs ys _ h h').mono ?_; rintro e w' ⟨rfl, rfl⟩)
  go_ret
  exact ⟨rfl, rfl⟩
theorem size_any (L H : Int) (w : World) : Calls Tryz.prog 18 #[.agg (shA L H)] w (GivesV (.int .i64 (sizeX L H : Int)) w) := by
  have HM := Lib.hid (show ∀ X, Calls Tryz.prog 16 #[.agg #[.int .i64 L, .int .i64 H]] X (GivesB (mayX L H) X) from fun X => may16_any L H X)
  obtain ⟨g, hg⟩ : ∃ g, g = w.heap.size := ⟨_, rfl⟩
  obtain ⟨w0, hw0⟩ : ∃ w0, w.alloc (.cells (shA L H) 23) = w0 := ⟨_, rfl⟩
  have M0 := Lib.hid (show Bk w0 g 23 (shA L H) by rw [← hw0, hg]; exact Bk.new _ _ _)
  have B0 := Lib.hid (show Below w.heap.size w w0 by rw [← hw0]; exact (Below.refl _ _).alloc (Nat.le_refl _) _)
  have k0 : w0.cell? ⟨g, 0, none⟩ = some (.int .i64 L) := M0.out.cell 0
  have k1 : w0.cell? ⟨g, 1, none⟩ = some (.int .i64 H) := M0.out.cell 1
  by_cases c : mayX L H = true
  · obtain ⟨l, k, p, rfl, rfl, hp, h1, h2, h3, h4, h5, hw⟩ := prod_nat c
    rw [sizeX_may c]
    rw [c] at HM
    have hs := size_small h2 h4
    obtain ⟨q, hq⟩ : ∃ q : Nat, q = l * (2144 + 32 * k) := ⟨_, rfl⟩
    obtain ⟨v, hv⟩ : ∃ v : Nat, v = 32 * k := ⟨_, rfl⟩
    have e2 : ((sizeN l k : Nat) : Int) = 40 + (q : Int) := by rw [sizeN, hq]; simp
    rw [e2]
    have WL := Lib.hid (show ∀ X, Calls Tryz.prog 44 #[.agg #[.int .i64 (l : Int), .int .i64 (k : Int)]] X (GivesV (.int .i64 (v : Int)) X) from fun X => by
      have e3 : ((v : Nat) : Int) = 32 * (k : Int) := by omega
      rw [e3]
      exact wayLen_any l k (by omega) (by omega) X)
    have hm1 : IntKind.i64.wrap (2144 + (v : Int)) = ((2144 + v : Nat) : Int) := by rw [IntKind.wrap_i64]; omega
    have hm : IntKind.i64.wrap ((l : Int) * ((2144 + v : Nat) : Int)) = (q : Int) := by
      have e : (l : Int) * ((2144 + v : Nat) : Int) = ((l * (2144 + 32 * k) : Nat) : Int) := by rw [hv]; simp
      rw [e, ← hq, IntKind.wrap_i64]
      rw [← hq] at hs
      omega
    have hm2 : IntKind.i64.wrap (40 + (q : Int)) = 40 + (q : Int) := by rw [IntKind.wrap_i64]; rw [← hq] at hs; omega
    obtain ⟨u, hu⟩ : ∃ u : Nat, u = 2144 + v := ⟨_, rfl⟩
    rw [← hu] at hm1 hm
    clear c hp h1 h2 h3 h5 hw e2 hq hs h4 hv hu
    go_enter Tryz.func18, Tryz.ntmps18
    go_upto_region 1 with (fail)
    rw [← hg]
    clear hw0 hg
    go_upto_region 3 with (go_at_call 16; ((with_reducible refine (HM.out _).mono ?_); rintro e w1 ⟨rfl, b1⟩; have B1 := Lib.hid (B0.out.trans (b1.mono B0.out.size)); have M1 := Lib.hid (M0.out.below b1 M0.out.lt); clear b1))
    have KS := Lib.hid (show ∀ X, Below w1.heap.size w1 X → X.cell? ⟨g, 0, none⟩ = some (.int .i64 (l : Int)) ∧ X.cell? ⟨g, 1, none⟩ = some (.int .i64 (k : Int)) from fun X hX => ⟨(M1.out.below hX M1.out.lt).cell 0, (M1.out.below hX M1.out.lt).cell 1⟩)
    have BD := Lib.hid (Below.refl w1.heap.size w1).drew
    clear k0 k1
    (go_region_held3 (fun X => X.cell? ⟨g, 0, none⟩ = some (.int .i64 (l : Int)) ∧ X.cell? ⟨g, 1, none⟩ = some (.int .i64 (k : Int))) (first
      | exact KS.out _ B2.out
      | exact KS.out _ BD.out) (first
      | (go_at_call 44; ((with_reducible refine (WL.out _).mono ?_); rintro e w2 ⟨rfl, b2⟩; have B2 := Lib.hid (BD.out.trans (b2.mono BD.out.size)); clear b2))
      | fail))
    go_wp2
    go_ret
    exact ⟨rfl, B1.out.trans (B2.out.mono B1.out.size)⟩
  · have c : mayX L H = false := by simpa using c
    rw [sizeX_not c]
    rw [c] at HM
    clear c
    go_enter Tryz.func18, Tryz.ntmps18
    go_upto_region 1 with (fail)
    rw [← hg]
    clear hw0 hg
    go_wp2_with (go_at_call 16; ((with_reducible refine (HM.out _).mono ?_); rintro e w1 ⟨rfl, b1⟩; have B1 := Lib.hid (B0.out.trans (b1.mono B0.out.size)); clear b1))
    go_ret
    exact ⟨rfl, B1.out⟩
end Go.Proofs.YtkpfppiedadmbaaGreatDoor.S16

/-
  The landed package xmss: whether a signature fits, where it can't. No statement is proved here.
-/
namespace Go.Proofs.YtkpfppiedadmbaaGreatDoor.S16
set_option linter.unusedSimpArgs false
set_option linter.unusedVariables false
set_option maxRecDepth 1024
open Go.RowKit Go.Shelf S15 RD

set_option maxHeartbeats 2000000 in
theorem fits_not (L H : Int) (Ap : Option Addr) (np cp : Nat) (At : Option Addr) (nt ct : Nat) (Ag : Option Addr) (ng cg : Nat) (w : World) (hc : mayX L H = false ∨ np ≠ 64 ∨ ng ≠ sizeX L H ∨ 65536 < nt) :
    Calls Tryz.prog 14 #[.agg (shA L H), .slice Ap np cp, .slice At nt ct, .slice Ag ng cg] w (GivesB false w) := by
  have HM := Lib.hid (show ∀ X, Calls Tryz.prog 16 #[.agg #[.int .i64 L, .int .i64 H]] X (GivesB (mayX L H) X) from fun X => may16_any L H X)
  obtain ⟨sz, hsz⟩ : ∃ sz, sz = sizeX L H := ⟨_, rfl⟩
  have HS := Lib.hid (show ∀ X, Calls Tryz.prog 18 #[.agg #[.int .i64 L, .int .i64 H]] X (GivesV (.int .i64 (sz : Int)) X) from fun X => by rw [hsz]; exact size_any L H X)
  rw [← hsz] at hc
  clear hsz
  obtain ⟨g, hg⟩ : ∃ g, g = w.heap.size := ⟨_, rfl⟩
  obtain ⟨w0, hw0⟩ : ∃ w0, w.alloc (.cells (shA L H) 23) = w0 := ⟨_, rfl⟩
  have M0 := Lib.hid (show Bk w0 g 23 (shA L H) by rw [← hw0, hg]; exact Bk.new _ _ _)
  have B0 := Lib.hid (show Below w.heap.size w w0 by rw [← hw0]; exact (Below.refl _ _).alloc (Nat.le_refl _) _)
  have k0 : w0.cell? ⟨g, 0, none⟩ = some (.int .i64 L) := M0.out.cell 0
  have k1 : w0.cell? ⟨g, 1, none⟩ = some (.int .i64 H) := M0.out.cell 1
  by_cases c : mayX L H = true
  · rw [c] at HM
    by_cases d : np = 64
    · have t1 : ((np : Int) != 64) = false := by simp; omega
      by_cases e : ng = sz
      · have t2 : ((ng : Int) != (sz : Int)) = false := by simp; omega
        have t3 : 65536 < nt := by
          rcases hc with h | h | h | h
          · rw [c] at h; cases h
          · exact absurd d h
          · exact absurd e h
          · exact h
        have t4 : (65536 : Int) < (nt : Int) := by omega
        clear c hc t3 d e
        go_enter Tryz.func14, Tryz.ntmps14
        go_upto_region 1 with (fail)
        rw [← hg]
        clear hw0 hg
        go_wp2_with (first
          | (go_at_call 16; ((with_reducible refine (HM.out _).mono ?_); rintro e w1 ⟨rfl, b1⟩; have B1 := Lib.hid (B0.out.trans (b1.mono B0.out.size)); have M1 := M0.out.below b1 M0.out.lt; have j0 := M1.cell 0; have j1 := M1.cell 1; simp only [List.getElem?_toArray, List.getElem?_cons_zero, List.getElem?_cons_succ] at j0 j1; clear b1 M1))
          | (go_at_call 18; ((with_reducible refine (HS.out _).mono ?_); rintro e w2 ⟨rfl, b2⟩; have B2 := Lib.hid (B1.out.trans (b2.mono B1.out.size)); clear b2)))
        go_ret
        exact ⟨rfl, B2.out⟩
      · have t2 : ((ng : Int) != (sz : Int)) = true := by simp; omega
        clear c hc d e
        go_enter Tryz.func14, Tryz.ntmps14
        go_upto_region 1 with (fail)
        rw [← hg]
        clear hw0 hg
        go_wp2_with (first
          | (go_at_call 16; ((with_reducible refine (HM.out _).mono ?_); rintro e w1 ⟨rfl, b1⟩; have B1 := Lib.hid (B0.out.trans (b1.mono B0.out.size)); have M1 := M0.out.below b1 M0.out.lt; have j0 := M1.cell 0; have j1 := M1.cell 1; simp only [List.getElem?_toArray, List.getElem?_cons_zero, List.getElem?_cons_succ] at j0 j1; clear b1 M1))
          | (go_at_call 18; ((with_reducible refine (HS.out _).mono ?_); rintro e w2 ⟨rfl, b2⟩; have B2 := Lib.hid (B1.out.trans (b2.mono B1.out.size)); clear b2)))
        go_ret
        exact ⟨rfl, B2.out⟩
    · have t1 : ((np : Int) != 64) = true := by simp; omega
      clear c hc d
      go_enter Tryz.func14, Tryz.ntmps14
      go_upto_region 1 with (fail)
      rw [← hg]
      clear hw0 hg
      go_wp2_with (go_at_call 16; ((with_reducible refine (HM.out _).mono ?_); rintro e w1 ⟨rfl, b1⟩; have B1 := Lib.hid (B0.out.trans (b1.mono B0.out.size)); clear b1))
      go_ret
      exact ⟨rfl, B1.out⟩
  · have c : mayX L H = false := by simpa using c
    rw [c] at HM
    clear c hc
    go_enter Tryz.func14, Tryz.ntmps14
    go_upto_region 1 with (fail)
    rw [← hg]
    clear hw0 hg
    go_wp2_with (go_at_call 16; ((with_reducible refine (HM.out _).mono ?_); rintro e w1 ⟨rfl, b1⟩; have B1 := Lib.hid (B0.out.trans (b1.mono B0.out.size)); clear b1))
    go_ret
    exact ⟨rfl, B1.out⟩
/-- What the beginning of a signature tells. -/
structure Ahead (w : World) (l k : Nat) (Ap : Option Addr) (cp : Nat) (pub : List UInt8) (At : Option Addr) (nt ct : Nat) (text : List UInt8) (Ag : Option Addr) (cg N : Nat) (sig : List UInt8) : Prop where
  gk : GK w
  pub : Rd w Ap 64 cp pub
  text : Rd w At nt ct text
  sig : Rd w Ag N cg sig
  may : mayX (l : Int) (k : Int) = true
  size : N = sizeN l k
  short : nt ≤ 65536
abbrev cut2 (A : Option Addr) (c m : Nat) : Option Addr := if c = m then A else A.map (·.add m)
set_option maxHeartbeats 4000000 in
theorem fits_beyond (l k : Nat) (Ap : Option Addr) (cp : Nat) (pub : List UInt8) (At : Option Addr) (nt ct : Nat) (text : List UInt8) (Ag : Option Addr) (cg N : Nat) (sig : List UInt8) (w : World) (h : Ahead w l k Ap cp pub At nt ct text Ag cg N sig) (hn : totN l k ≤ getL (sig.take 8)) :
    Calls Tryz.prog 14 #[.agg (shA l k), .slice Ap 64 cp, .slice At nt ct, .slice Ag N cg] w (GivesB false w) := by
  have HM := Lib.hid (show ∀ X, Calls Tryz.prog 16 #[.agg #[.int .i64 (l : Int), .int .i64 (k : Int)]] X (GivesB true X) from fun X => by rw [← h.may]; exact may16_any l k X)
  have HS := Lib.hid (show ∀ X, Calls Tryz.prog 18 #[.agg #[.int .i64 (l : Int), .int .i64 (k : Int)]] X (GivesV (.int .i64 (N : Int)) X) from fun X => by rw [h.size, ← sizeX_may h.may]; exact size_any l k X)
  obtain ⟨T, hT⟩ : ∃ T, T = totN l k := ⟨_, rfl⟩
  have HTT := Lib.hid (show ∀ X, Calls Tryz.prog 17 #[.agg #[.int .i64 (l : Int), .int .i64 (k : Int)]] X (GivesV (.int .u64 (T : Int)) X) from fun X => by rw [hT, totN, ← totX_may h.may rfl]; exact tot_any l k X)
  have hN40 : 40 ≤ N := by rw [h.size, sizeN]; omega
  obtain ⟨v, hv⟩ : ∃ v, v = getL (sig.take 8) := ⟨_, rfl⟩
  rw [← hT, ← hv] at hn
  have hpc := h.pub.cap
  have hpm := h.pub.max
  have hsc := h.sig.cap
  have hsm := h.sig.max
  have K1 := Lib.hid (show ∀ X, Calls Tryz.prog 42 #[.slice Ap 64 cp, .int .i64 32] X fun e w' => e = .returned (.tuple #[.slice Ap 32 cp, .slice (cut2 Ap cp 32) 32 (cp - 32)]) ∧ Below X.heap.size X w' from fun X => take_any Ap 64 cp 32 (by omega) hpc hpm X)
  have K2 := Lib.hid (show ∀ X, Calls Tryz.prog 42 #[.slice Ag N cg, .int .i64 8] X fun e w' => e = .returned (.tuple #[.slice Ag 8 cg, .slice (cut2 Ag cg 8) (N - 8) (cg - 8)]) ∧ Below X.heap.size X w' from fun X => take_any Ag N cg 8 (by omega) hsc hsm X)
  have K3 := Lib.hid (show ∀ X, Calls Tryz.prog 42 #[.slice (cut2 Ag cg 8) (N - 8) (cg - 8), .int .i64 32] X fun e w' => e = .returned (.tuple #[.slice (cut2 Ag cg 8) 32 (cg - 8), .slice (cut2 (cut2 Ag cg 8) (cg - 8) 32) (N - 8 - 32) (cg - 8 - 32)]) ∧ Below X.heap.size X w' from fun X => take_any _ (N - 8) (cg - 8) 32 (by omega) (by omega) (by omega) X)
  have K4 := Lib.hid (show ∀ X, Below w.heap.size w X → Calls Tryz.prog 43 #[.slice Ag 8 cg] X fun e w' => e = .returned (.tuple #[.int .u64 (v : Int), .bool true]) ∧ X = w' from fun X hX => by rw [hv]; exact get_any Ag 8 cg _ X (by omega) ((h.sig.below hX).take (by omega)))
  have t1 : ((N : Int) != (N : Int)) = false := by simp
  have t2 : ¬ (65536 : Int) < (nt : Int) := by have := h.short; omega
  have t3 : ¬ (v : Int) < (T : Int) := by omega
  have t3' : (T : Int) ≤ (v : Int) := by omega
  obtain ⟨g, hg⟩ : ∃ g, g = w.heap.size := ⟨_, rfl⟩
  have HGS := Lib.hid (show w.heap.size = g from hg.symm)
  obtain ⟨w0, hw0⟩ : ∃ w0, w.alloc (.cells (shA l k) 23) = w0 := ⟨_, rfl⟩
  have M0 := Lib.hid (show Bk w0 g 23 (shA l k) by rw [← hw0, hg]; exact Bk.new _ _ _)
  have B0 := Lib.hid (show Below w.heap.size w w0 by rw [← hw0]; exact (Below.refl _ _).alloc (Nat.le_refl _) _)
  have k0 : w0.cell? ⟨g, 0, none⟩ = some (.int .i64 (l : Int)) := M0.out.cell 0
  have k1 : w0.cell? ⟨g, 1, none⟩ = some (.int .i64 (k : Int)) := M0.out.cell 1
  obtain ⟨A2, hA2⟩ : ∃ A2, cut2 Ap cp 32 = A2 := ⟨_, rfl⟩
  rw [hA2] at K1
  obtain ⟨A3, hA3⟩ : ∃ A3, cut2 Ag cg 8 = A3 := ⟨_, rfl⟩
  rw [hA3] at K2 K3
  obtain ⟨A4, hA4⟩ : ∃ A4, cut2 A3 (cg - 8) 32 = A4 := ⟨_, rfl⟩
  rw [hA4] at K3
  obtain ⟨N8, hN8⟩ : ∃ N8, N - 8 = N8 := ⟨_, rfl⟩
  obtain ⟨c8, hc8⟩ : ∃ c8, cg - 8 = c8 := ⟨_, rfl⟩
  rw [hN8, hc8] at K2 K3
  clear h hn hT hN40 hv hpc hpm hsc hsm hA2 hA3 hA4 hN8 hc8
  go_enter Tryz.func14, Tryz.ntmps14
  go_upto_region 1 with (fail)
  rw [← hg]
  clear hw0 hg
  go_upto_region 3 with (first
    | (go_at_call 16; ((with_reducible refine (HM.out _).mono ?_); rintro e w1 ⟨rfl, b1⟩; have B1 := Lib.hid (B0.out.trans (b1.mono B0.out.size)); have M1 := Lib.hid (M0.out.below b1 M0.out.lt); have j0 := M1.out.cell 0; have j1 := M1.out.cell 1; simp only [List.getElem?_toArray, List.getElem?_cons_zero, List.getElem?_cons_succ] at j0 j1; clear b1))
    | (go_at_call 18; ((with_reducible refine (HS.out _).mono ?_); rintro e w2 ⟨rfl, b2⟩; have B2 := Lib.hid (B1.out.trans (b2.mono B1.out.size)); have M2 := Lib.hid (M1.out.below b2 M1.out.lt); clear b2)))
  go_upto_region 4 with (go_at_call 42; ((with_reducible refine (K1.out _).mono ?_); rintro e w3 ⟨rfl, b3⟩; have B3 := Lib.hid (B2.out.trans (b3.mono B2.out.size)); have M3 := Lib.hid (M2.out.below b3 M2.out.lt); clear b3))
  obtain ⟨d1, hd1⟩ : ∃ d1, w3.heap.size = d1 := ⟨_, rfl⟩
  obtain ⟨w4, hw4⟩ : ∃ w4, w3.alloc (.cells #[.slice A2 32 (cp - 32)] 24) = w4 := ⟨_, rfl⟩
  have P4 := Lib.hid (show Bk w4 d1 24 #[.slice A2 32 (cp - 32)] by rw [← hw4]; exact Bk.newAt _ _ _ _ hd1)
  have B4 := Lib.hid (show Below w.heap.size w w4 by rw [← hw4]; exact B3.out.alloc B3.out.size _)
  have M4 := Lib.hid (show Bk w4 g 23 (shA l k) by rw [← hw4]; exact M3.out.alloc _)
  have L4 := Lib.hid (show g < d1 by rw [← hd1]; exact M3.out.lt)
  first
    | rw [hw4, hd1]
    | rw [hd1]
    | skip
  clear hw4 hd1 j0 j1
  go_upto_region 5 with (go_at_call 42; ((with_reducible refine (K2.out _).mono ?_); rintro e w5 ⟨rfl, b5⟩; have B5 := Lib.hid (B4.out.trans (b5.mono B4.out.size)); have M5 := Lib.hid (M4.out.below b5 M4.out.lt); have P5 := Lib.hid (P4.out.below b5 P4.out.lt); clear b5))
  obtain ⟨d2, hd2⟩ : ∃ d2, w5.heap.size = d2 := ⟨_, rfl⟩
  obtain ⟨w6, hw6⟩ : ∃ w6, w5.alloc (.cells #[.slice A3 N8 c8] 24) = w6 := ⟨_, rfl⟩
  have R6 := Lib.hid (show Bk w6 d2 24 #[.slice A3 N8 c8] by rw [← hw6]; exact Bk.newAt _ _ _ _ hd2)
  have B6 := Lib.hid (show Below w.heap.size w w6 by rw [← hw6]; exact B5.out.alloc B5.out.size _)
  have M6 := Lib.hid (show Bk w6 g 23 (shA l k) by rw [← hw6]; exact M5.out.alloc _)
  have P6 := Lib.hid (show Bk w6 d1 24 #[.slice A2 32 (cp - 32)] by rw [← hw6]; exact P5.out.alloc _)
  have L6 := Lib.hid (show d1 < d2 by rw [← hd2]; exact P5.out.lt)
  first
    | rw [hw6, hd2]
    | rw [hd2]
    | skip
  clear hw6 hd2
  have r0 : w6.cell? ⟨d2, 0, none⟩ = some (.slice A3 N8 c8) := R6.out.cell 0
  go_upto_region 6 with (go_at_call 42; ((with_reducible refine (K3.out _).mono ?_); rintro e w7 ⟨rfl, b7⟩; have B7 := Lib.hid (B6.out.trans (b7.mono B6.out.size)); have M7 := Lib.hid (M6.out.below b7 M6.out.lt); have P7 := Lib.hid (P6.out.below b7 P6.out.lt); have R7 := Lib.hid (R6.out.below b7 R6.out.lt); have s0 := R7.out.cell 0; have s1 := R7.out.frozen 0; simp only [List.getElem?_toArray, List.getElem?_cons_zero, List.getElem?_cons_succ] at s0; clear b7))
  obtain ⟨w8, hw8⟩ : ∃ w8, w7.setCell ⟨d2, 0, none⟩ (.slice A4 (N8 - 32) (c8 - 32)) = w8 := ⟨_, rfl⟩
  have hg2 : w.heap.size ≤ d2 := by have := B5.out.size; have := L6.out; have := L4.out; have := HGS.out; omega
  have B8 := Lib.hid (show Below w.heap.size w w8 by rw [← hw8]; exact B7.out.setCell (p := ⟨d2, 0, none⟩) hg2 _)
  have M8 := Lib.hid (show Bk w8 g 23 (shA l k) by rw [← hw8]; exact M7.out.far (by show g ≠ d2; have := L6.out; have := L4.out; omega) _)
  have P8 := Lib.hid (show Bk w8 d1 24 #[.slice A2 32 (cp - 32)] by rw [← hw8]; exact P7.out.far (by show d1 ≠ d2; have := L6.out; omega) _)
  have R8 := Lib.hid (show Bk w8 d2 24 #[.slice A4 (N8 - 32) (c8 - 32)] by rw [← hw8]; exact R7.out.put 0 _)
  first
    | rw [hw8]
    | skip
  clear hw8 hg2 r0 s0 s1
  have j0 : w8.cell? ⟨g, 0, none⟩ = some (.int .i64 (l : Int)) := M8.out.cell 0
  have j1 : w8.cell? ⟨g, 1, none⟩ = some (.int .i64 (k : Int)) := M8.out.cell 1
  go_wp2_with (first
    | (go_at_call 43; ((with_reducible refine (K4.out _ B8.out).mono ?_); rintro e w9 ⟨rfl, rfl⟩))
    | (go_at_call 17; ((with_reducible refine (HTT.out _).mono ?_); rintro e w10 ⟨rfl, b10⟩; have B10 := Lib.hid (B8.out.trans (b10.mono B8.out.size)); clear b10)))
  go_ret
  exact ⟨rfl, B10.out⟩
end Go.Proofs.YtkpfppiedadmbaaGreatDoor.S16
