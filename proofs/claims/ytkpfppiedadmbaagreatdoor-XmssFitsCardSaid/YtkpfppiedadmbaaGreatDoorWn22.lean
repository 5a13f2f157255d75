/-
  Texts put together: Xm4, Xm5. No statement is proved here.
-/
import Derived.Test.YtkpfppiedadmbaaGreatDoorWn16
import Derived.Test.YtkpfppiedadmbaaGreatDoorWn21

/-
  How often a shape signs, how long a signature is, whether it can be made: the document's own calls and the landed ones. No statement is proved here.
-/
namespace Go.Proofs.YtkpfppiedadmbaaGreatDoor.S16
set_option linter.unusedSimpArgs false
set_option linter.unusedVariables false
set_option maxRecDepth 1024
open Go.RowKit S15

theorem shl_pow {p : Nat} (h : p ≤ 60) : IntKind.u64.wrap ((1 : Int) * 2 ^ min p 64) = ((2 ^ p : Nat) : Int) := by
  have h1 : 2 ^ p ≤ 2 ^ 60 := Nat.pow_le_pow_right (by omega) h
  rw [Nat.min_eq_left (by omega), Int.one_mul, IntKind.wrap_u64]
  have e : ((2 : Int) ^ p) = ((2 ^ p : Nat) : Int) := by simp
  have h2 : (2 : Nat) ^ 60 = 1152921504606846976 := rfl
  rw [e]
  rw [h2] at h1
  generalize 2 ^ p = q at h1
  omega
theorem prod_nat {L H : Int} (h : mayX L H = true) : ∃ l k p : Nat, L = l ∧ H = k ∧ p = l * k ∧ 0 < l ∧ l < 13 ∧ 0 < k ∧ k < 21 ∧ p ≤ 60 ∧ wrap64 ((l : Int) * (k : Int)) = (p : Int) := by
  obtain ⟨l, k, rfl, rfl, h1, h2, h3, h4, h5⟩ := mayX_nat h
  refine ⟨l, k, l * k, rfl, rfl, rfl, h1, h2, h3, h4, h5, ?_⟩
  rw [mul_small (by omega) (by omega) (by omega) (by omega)]
  simp
theorem totX_may {l k p : Nat} (h : mayX (l : Int) (k : Int) = true) (hp : p = l * k) : totX (l : Int) (k : Int) = 2 ^ p := by
  rw [totX, if_pos h, hp]
  rfl
theorem sizeX_may {l k : Nat} (h : mayX (l : Int) (k : Int) = true) : sizeX (l : Int) (k : Int) = sizeN l k := by
  rw [sizeX, if_pos h]
  rfl
theorem totX_not {L H : Int} (h : mayX L H = false) : totX L H = 0 := by rw [totX, if_neg (by simp [h])]
theorem sizeX_not {L H : Int} (h : mayX L H = false) : sizeX L H = 0 := by rw [sizeX, if_neg (by simp [h])]
theorem size_small {l k : Nat} (h2 : l < 13) (h4 : k < 21) : l * (2144 + 32 * k) ≤ 12 * (2144 + 32 * 20) := Nat.mul_le_mul (by omega) (by omega)
/-- A number, nothing else new. -/
abbrev GivesV (v : Value) (w : World) (e : Ending) (w' : World) : Prop := e = .returned v ∧ Below w.heap.size w w'
set_option maxHeartbeats 1000000 in
theorem rtot_any (L H : Int) (w : World) : Calls Tryz.prog 32 #[.agg (shA L H)] w (GivesV (.int .u64 (totX L H : Int)) w) := by
  have HM := Lib.hid (show ∀ X, Calls Tryz.prog 19 #[.agg #[.int .i64 L, .int .i64 H]] X (GivesB (mayX L H) X) from fun X => rmay16_any L H X)
  obtain ⟨g, hg⟩ : ∃ g, g = w.heap.size := ⟨_, rfl⟩
  obtain ⟨w0, hw0⟩ : ∃ w0, w.alloc (.cells (shA L H) 23) = w0 := ⟨_, rfl⟩
  have M0 := Lib.hid (show Bk w0 g 23 (shA L H) by rw [← hw0, hg]; exact Bk.new _ _ _)
  have B0 := Lib.hid (show Below w.heap.size w w0 by rw [← hw0]; exact (Below.refl _ _).alloc (Nat.le_refl _) _)
  have k0 : w0.cell? ⟨g, 0, none⟩ = some (.int .i64 L) := M0.out.cell 0
  have k1 : w0.cell? ⟨g, 1, none⟩ = some (.int .i64 H) := M0.out.cell 1
  by_cases c : mayX L H = true
  · obtain ⟨l, k, p, rfl, rfl, hp, h1, h2, h3, h4, h5, hw⟩ := prod_nat c
    rw [totX_may c hp]
    rw [c] at HM
    have HP := Lib.hid (fun X => rpow_any p h5 X)
    clear c hp h1 h2 h3 h4 h5
    go_enter Tryz.func32, Tryz.ntmps32
    go_upto_region 1 with (fail)
    rw [← hg]
    clear hw0 hg
    go_wp2_with (first
      | (go_at_call 19; ((with_reducible refine (HM.out _).mono ?_); rintro e w1 ⟨rfl, b1⟩; have B1 := Lib.hid (B0.out.trans (b1.mono B0.out.size)); have M1 := M0.out.below b1 M0.out.lt; have j0 := M1.cell 0; have j1 := M1.cell 1; simp only [List.getElem?_toArray, List.getElem?_cons_zero, List.getElem?_cons_succ] at j0 j1; clear b1 M1))
      | (go_at_call 39; ((with_reducible refine (HP.out _).mono ?_); rintro e w2 ⟨rfl, rfl⟩)))
    go_ret
    exact ⟨rfl, B1.out⟩
  · have c : mayX L H = false := by simpa using c
    rw [totX_not c]
    rw [c] at HM
    clear c
    go_enter Tryz.func32, Tryz.ntmps32
    go_upto_region 1 with (fail)
    rw [← hg]
    clear hw0 hg
    go_wp2_with (go_at_call 19; ((with_reducible refine (HM.out _).mono ?_); rintro e w1 ⟨rfl, b1⟩; have B1 := Lib.hid (B0.out.trans (b1.mono B0.out.size)); clear b1))
    go_ret
    exact ⟨rfl, B1.out⟩
set_option maxHeartbeats 1000000 in
theorem rsize_any (L H : Int) (w : World) : Calls Tryz.prog 48 #[.agg (shA L H)] w (GivesV (.int .i64 (sizeX L H : Int)) w) := by
  have HM := Lib.hid (show ∀ X, Calls Tryz.prog 19 #[.agg #[.int .i64 L, .int .i64 H]] X (GivesB (mayX L H) X) from fun X => rmay16_any L H X)
  obtain ⟨g, hg⟩ : ∃ g, g = w.heap.size := ⟨_, rfl⟩
  obtain ⟨w0, hw0⟩ : ∃ w0, w.alloc (.cells (shA L H) 23) = w0 := ⟨_, rfl⟩
  have M0 := Lib.hid (show Bk w0 g 23 (shA L H) by rw [← hw0, hg]; exact Bk.new _ _ _)
  have B0 := Lib.hid (show Below w.heap.size w w0 by rw [← hw0]; exact (Below.refl _ _).alloc (Nat.le_refl _) _)
  have k0 : w0.cell? ⟨g, 0, none⟩ = some (.int .i64 L) := M0.out.cell 0
  have k1 : w0.cell? ⟨g, 1, none⟩ = some (.int .i64 H) := M0.out.cell 1
  by_cases c : mayX L H = true
  · obtain ⟨l, k, p, rfl, rfl, hp, h1, h2, h3, h4, h5, hw⟩ := prod_nat c
    rw [sizeX_may c]
    rw [c] at HM
    have hs := size_small h2 h4
    obtain ⟨q, hq⟩ : ∃ q : Nat, q = l * (2144 + 32 * k) := ⟨_, rfl⟩
    have hm : wrap64 ((l : Int) * (2144 + 32 * (k : Int))) = (q : Int) := by
      rw [hq]
      unfold wrap64
      have e : (l : Int) * (2144 + 32 * (k : Int)) = ((l * (2144 + 32 * k) : Nat) : Int) := by simp
      rw [e]
      omega
    have e2 : ((sizeN l k : Nat) : Int) = 40 + (q : Int) := by rw [sizeN, hq]; simp
    rw [e2]
    rw [← hq] at hs
    clear c hp h1 h2 h3 h5 hw e2 hq
    go_enter Tryz.func48, Tryz.ntmps48
    go_upto_region 1 with (fail)
    rw [← hg]
    clear hw0 hg
    go_wp2_with (go_at_call 19; ((with_reducible refine (HM.out _).mono ?_); rintro e w1 ⟨rfl, b1⟩; have B1 := Lib.hid (B0.out.trans (b1.mono B0.out.size)); have M1 := M0.out.below b1 M0.out.lt; have j0 := M1.cell 0; have j1 := M1.cell 1; simp only [List.getElem?_toArray, List.getElem?_cons_zero, List.getElem?_cons_succ] at j0 j1; clear b1 M1))
    go_ret
    exact ⟨by first | rfl | simp, B1.out⟩
  · have c : mayX L H = false := by simpa using c
    rw [sizeX_not c]
    rw [c] at HM
    clear c
    go_enter Tryz.func48, Tryz.ntmps48
    go_upto_region 1 with (fail)
    rw [← hg]
    clear hw0 hg
    go_wp2_with (go_at_call 19; ((with_reducible refine (HM.out _).mono ?_); rintro e w1 ⟨rfl, b1⟩; have B1 := Lib.hid (B0.out.trans (b1.mono B0.out.size)); clear b1))
    go_ret
    exact ⟨rfl, B1.out⟩
set_option maxHeartbeats 1000000 in
theorem tot_any (L H : Int) (w : World) : Calls Tryz.prog 17 #[.agg (shA L H)] w (GivesV (.int .u64 (totX L H : Int)) w) := by
  have HM := Lib.hid (show ∀ X, Calls Tryz.prog 16 #[.agg #[.int .i64 L, .int .i64 H]] X (GivesB (mayX L H) X) from fun X => may16_any L H X)
  obtain ⟨g, hg⟩ : ∃ g, g = w.heap.size := ⟨_, rfl⟩
  obtain ⟨w0, hw0⟩ : ∃ w0, w.alloc (.cells (shA L H) 23) = w0 := ⟨_, rfl⟩
  have M0 := Lib.hid (show Bk w0 g 23 (shA L H) by rw [← hw0, hg]; exact Bk.new _ _ _)
  have B0 := Lib.hid (show Below w.heap.size w w0 by rw [← hw0]; exact (Below.refl _ _).alloc (Nat.le_refl _) _)
  have k0 : w0.cell? ⟨g, 0, none⟩ = some (.int .i64 L) := M0.out.cell 0
  have k1 : w0.cell? ⟨g, 1, none⟩ = some (.int .i64 H) := M0.out.cell 1
  by_cases c : mayX L H = true
  · obtain ⟨l, k, p, rfl, rfl, hp, h1, h2, h3, h4, h5, hw⟩ := prod_nat c
    rw [totX_may c hp]
    rw [c] at HM
    have HS := Lib.hid (shl_pow h5)
    clear c hp h1 h2 h3 h4 h5
    go_enter Tryz.func17, Tryz.ntmps17
    go_upto_region 1 with (fail)
    rw [← hg]
    clear hw0 hg
    go_wp2_with (go_at_call 16; ((with_reducible refine (HM.out _).mono ?_); rintro e w1 ⟨rfl, b1⟩; have B1 := Lib.hid (B0.out.trans (b1.mono B0.out.size)); have M1 := M0.out.below b1 M0.out.lt; have j0 := M1.cell 0; have j1 := M1.cell 1; simp only [List.getElem?_toArray, List.getElem?_cons_zero, List.getElem?_cons_succ] at j0 j1; clear b1 M1))
    go_ret
    exact ⟨by rw [← HS.out]; simp, B1.out⟩
  · have c : mayX L H = false := by simpa using c
    rw [totX_not c]
    rw [c] at HM
    clear c
    go_enter Tryz.func17, Tryz.ntmps17
    go_upto_region 1 with (fail)
    rw [← hg]
    clear hw0 hg
    go_wp2_with (go_at_call 16; ((with_reducible refine (HM.out _).mono ?_); rintro e w1 ⟨rfl, b1⟩; have B1 := Lib.hid (B0.out.trans (b1.mono B0.out.size)); clear b1))
    go_ret
    exact ⟨rfl, B1.out⟩
theorem wayLen_any (L H : Int) (h1 : 0 < H) (h2 : H < 21) (w : World) : Calls Tryz.prog 44 #[.agg (shA L H)] w (GivesV (.int .i64 (32 * H)) w) := by
  have B0 : Below w.heap.size w (w.alloc (.cells (shA L H) 23)) := (Below.refl _ _).alloc (Nat.le_refl _) _
  go_enter Tryz.func44, Tryz.ntmps44
  go_wp2
  go_ret
  exact ⟨rfl, B0⟩
end Go.Proofs.YtkpfppiedadmbaaGreatDoor.S16

/-
  The landed package xmss: whether a shape can be made, whether there is a tree, an index as bytes, a text's sum, an address, the first bytes of a row. No statement is proved here.
-/
namespace Go.Proofs.YtkpfppiedadmbaaGreatDoor.S16
set_option linter.unusedSimpArgs false
set_option linter.unusedVariables false
set_option maxRecDepth 1024
open Go.RowKit S15

set_option maxHeartbeats 1000000 in
theorem canMake_any (L H : Int) (As : Option Addr) (ns cs : Nat) (Al : Option Addr) (nl cl : Nat) (Ae : Option Addr) (ne ce : Nat) (w : World) : Calls Tryz.prog 20 #[.agg (shA L H), .agg (mkA As ns cs Al nl cl Ae ne ce)] w (GivesB (madeX L H ns nl ne) w) := by
  have HM := Lib.hid (show ∀ X, Calls Tryz.prog 16 #[.agg #[.int .i64 L, .int .i64 H]] X (GivesB (mayX L H) X) from fun X => may16_any L H X)
  have HN := Lib.hid (show ∀ X, Calls Tryz.prog 52 #[.agg #[.slice As ns cs, .slice Al nl cl, .slice Ae ne ce]] X (GivesB (mayN ns nl ne) X) from fun X => may_any15 As ns cs Al nl cl Ae ne ce X)
  obtain ⟨g, hg⟩ : ∃ g, g = w.heap.size := ⟨_, rfl⟩
  obtain ⟨w0, hw0⟩ : ∃ w0, (w.alloc (.cells (shA L H) 23)).alloc (.cells (mkA As ns cs Al nl cl Ae ne ce) 26) = w0 := ⟨_, rfl⟩
  have M0 := Lib.hid (show Bk w0 g 23 (shA L H) by rw [← hw0, hg]; exact (Bk.new _ _ _).alloc _)
  have G0 := Lib.hid (show Bk w0 (g + 1) 26 (mkA As ns cs Al nl cl Ae ne ce) by rw [← hw0, hg]; exact Bk.newAt _ _ _ _ (by simp))
  have B0 := Lib.hid (show Below w.heap.size w w0 by rw [← hw0]; exact ((Below.refl _ _).alloc (Nat.le_refl _) _).alloc (by simp) _)
  have k0 : w0.cell? ⟨g, 0, none⟩ = some (.int .i64 L) := M0.out.cell 0
  have k1 : w0.cell? ⟨g, 1, none⟩ = some (.int .i64 H) := M0.out.cell 1
  by_cases c : mayX L H = true
  · rw [c] at HM
    by_cases d : H ≤ 6
    · have e : madeX L H ns nl ne = mayN ns nl ne := by simp [madeX, c, d]
      rw [e]
      clear e c
      go_enter Tryz.func20, Tryz.ntmps20
      go_upto_region 1 with (fail)
      rw [← hg]
      clear hw0 hg
      go_wp2_with (first
        | (go_at_call 16; ((with_reducible refine (HM.out _).mono ?_); rintro e w1 ⟨rfl, b1⟩; have B1 := Lib.hid (B0.out.trans (b1.mono B0.out.size)); have M1 := M0.out.below b1 M0.out.lt; have j1 := M1.cell 1; have G1 := G0.out.below b1 G0.out.lt; have i0 := G1.cell 0; have i1 := G1.cell 1; have i2 := G1.cell 2; simp only [List.getElem?_toArray, List.getElem?_cons_zero, List.getElem?_cons_succ] at j1 i0 i1 i2; clear b1 M1 G1))
        | (go_at_call 52; ((with_reducible refine (HN.out _).mono ?_); rintro e w2 ⟨rfl, b2⟩; have B2 := Lib.hid (B1.out.trans (b2.mono B1.out.size)); clear b2)))
      go_ret
      exact ⟨rfl, B2.out⟩
    · have e : madeX L H ns nl ne = false := by simp [madeX, d]
      rw [e]
      clear e c
      go_enter Tryz.func20, Tryz.ntmps20
      go_upto_region 1 with (fail)
      rw [← hg]
      clear hw0 hg
      go_wp2_with (go_at_call 16; ((with_reducible refine (HM.out _).mono ?_); rintro e w1 ⟨rfl, b1⟩; have B1 := Lib.hid (B0.out.trans (b1.mono B0.out.size)); have M1 := M0.out.below b1 M0.out.lt; have j1 := M1.cell 1; simp only [List.getElem?_toArray, List.getElem?_cons_zero, List.getElem?_cons_succ] at j1; clear b1 M1))
      go_ret
      exact ⟨rfl, B1.out⟩
  · have c : mayX L H = false := by simpa using c
    have e : madeX L H ns nl ne = false := by simp [madeX, c]
    rw [e]
    rw [c] at HM
    clear e c
    go_enter Tryz.func20, Tryz.ntmps20
    go_upto_region 1 with (fail)
    rw [← hg]
    clear hw0 hg
    go_wp2_with (go_at_call 16; ((with_reducible refine (HM.out _).mono ?_); rintro e w1 ⟨rfl, b1⟩; have B1 := Lib.hid (B0.out.trans (b1.mono B0.out.size)); clear b1))
    go_ret
    exact ⟨rfl, B1.out⟩
/-- Whether there is a tree. -/
def treeN (l k ly tr : Nat) : Bool := decide (ly < l) && decide (tr < 2 ^ (k * (l - 1 - ly)))
theorem shl_pow' {p : Nat} (h : p ≤ 60) : IntKind.u64.wrap ((2 : Int) ^ p) = ((2 ^ p : Nat) : Int) := by
  have := shl_pow h
  rwa [Int.one_mul, Nat.min_eq_left (by omega)] at this
set_option maxHeartbeats 1000000 in
theorem hasTree_any (l k ly tr : Nat) (h1 : l < 13) (h2 : k < 21) (h3 : l * k ≤ 60) (hly : ly < 4294967296) (htr : tr < 18446744073709551616) (w : World) : Calls Tryz.prog 41 #[.agg (shA l k), .int .u32 (ly : Int), .int .u64 (tr : Int)] w (GivesB (treeN l k ly tr) w) := by
  have B0 := Lib.hid (show Below w.heap.size w (w.alloc (.cells (shA l k) 23)) from (Below.refl _ _).alloc (Nat.le_refl _) _)
  have q1 : IntKind.u64.wrap (ly : Int) = (ly : Int) := by rw [IntKind.wrap_u64]; omega
  have q2 : IntKind.u64.wrap (l : Int) = (l : Int) := by rw [IntKind.wrap_u64]; omega
  by_cases c : ly < l
  · obtain ⟨m, hm⟩ : ∃ m, m = l - 1 - ly := ⟨_, rfl⟩
    obtain ⟨p, hp⟩ : ∃ p, p = m * k := ⟨_, rfl⟩
    have hpl : p ≤ 60 := by
      have : m * k ≤ l * k := Nat.mul_le_mul_right k (by omega)
      omega
    have e : treeN l k ly tr = decide (tr < 2 ^ p) := by
      rw [treeN, ← hm, hp, Nat.mul_comm k m]
      simp [c]
    rw [e]
    have t0 : (ly : Int) < (l : Int) := by omega
    have t1 : (l : Int) - 1 - (ly : Int) = (m : Int) := by omega
    have t2 : wrap64 ((m : Int) * (k : Int)) = (p : Int) := by
      have e1 : (m : Int) * (k : Int) = (p : Int) := by rw [hp]; simp
      rw [e1]
      unfold wrap64
      omega
    have HS := Lib.hid (shl_pow' hpl)
    have HC := Lib.hid (show decide ((tr : Int) < ((2 ^ p : Nat) : Int)) = decide (tr < 2 ^ p) by simp only [decide_eq_decide]; exact Int.ofNat_lt)
    clear e hp hm h3 c
    go_enter Tryz.func41, Tryz.ntmps41
    go_wp2
    go_ret
    exact ⟨by rw [← HC.out, ← HS.out]; simp, B0.out⟩
  · have e : treeN l k ly tr = false := by simp [treeN, c]
    rw [e]
    have t0 : ¬ (ly : Int) < (l : Int) := by omega
    clear e c h3
    go_enter Tryz.func41, Tryz.ntmps41
    go_wp2
    go_ret
    exact ⟨rfl, B0.out⟩
theorem take_any (A : Option Addr) (n c m : Nat) (hm : m ≤ n) (hc : n ≤ c) (hx : c ≤ maxLen) (w : World) :
    Calls Tryz.prog 42 #[.slice A n c, .int .i64 (m : Int)] w fun e w' => e = .returned (.tuple #[.slice A m c, .slice (if c = m then A else A.map (·.add m)) (n - m) (c - m)]) ∧ Below w.heap.size w w' := by
  have C1 : ∀ W, (Instr.slice 24 (.slice A n c) none (some (.int .i64 (m : Int))) none).run Tryz.prog W = .ok (.slice A m c) W := fun W => run_cutSlH (m := m) rfl (by omega) W
  have C2 : ∀ W, (Instr.sliceAt 24 (.slice A n c) none (some (.int .i64 (m : Int))) none).run Tryz.prog W = .ok (.slice A m c) W := fun W => run_cutSlHAt (m := m) rfl (by omega) W
  obtain ⟨A2, hA2⟩ : ∃ A2, A2 = if c = m then A else A.map (·.add m) := ⟨_, rfl⟩
  have D1 : ∀ W, (Instr.slice 24 (.slice A n c) (some (.int .i64 (m : Int))) none none).run Tryz.prog W = .ok (.slice A2 (n - m) (c - m)) W := fun W => by rw [hA2]; exact run_cutSl (k := m) rfl (by omega) W
  have D2 : ∀ W, (Instr.sliceAt 24 (.slice A n c) (some (.int .i64 (m : Int))) none none).run Tryz.prog W = .ok (.slice A2 (n - m) (c - m)) W := fun W => by rw [hA2]; exact run_cutSlAt (k := m) rfl (by omega) W
  rw [← hA2]
  clear hA2
  go_enter Tryz.func42, Tryz.ntmps42
  go_wp2
  (go_region_held3 (fun _ => True) (trivial) (fail))
  go_wp2
  go_ret2
  exact ⟨rfl, (Below.refl _ _).drew⟩
theorem bytesOf_any (n : Nat) (hn : n < 18446744073709551616) (w : World) : Calls Tryz.prog 24 #[.int .u64 (n : Int)] w (New w.heap.size w (longL n)) := by
  have hq : longL n = [List.replicate 24 0, putL n 8].flatten := by simp [longL]
  rw [hq]
  have HF := Lib.hid (show ∀ X, Calls Tryz.prog 58 #[.int .u8 0, .int .i64 24] X (New X.heap.size X (List.replicate 24 0)) from fun X => fill_any 0 24 X (by omega))
  have HP := Lib.hid (show ∀ X, Calls Tryz.prog 27 #[.int .u64 (n : Int), .int .i64 8] X (New X.heap.size X (putL n 8)) from fun X => put_any n 8 X (by omega) (by omega))
  have HLF := Lib.hid (show (List.replicate 24 (0 : UInt8)).length = 24 by simp)
  have HLP := Lib.hid (putL_length n 8)
  clear hq
  generalize List.replicate 24 (0 : UInt8) = x1 at *
  generalize putL n 8 = x2 at *
  have HL := Lib.hid (show [x1, x2].flatten.length ≤ 140737488355328 by have := HLF.out; have := HLP.out; simp; omega)
  go_enter Tryz.func24, Tryz.ntmps24
  go_wp2_with (first
    | (go_at_call 58; ((with_reducible refine (HF.out _).mono ?_); rintro e w1 ⟨A1, n1, c1, rfl, q1, b1⟩; obtain rfl : n1 = 24 := (own_len q1).symm.trans HLF.out; have R1 := Lib.hid (Rd.own q1); have B1 := Lib.hid b1; clear q1 b1))
    | (go_at_call 27; ((with_reducible refine (HP.out _).mono ?_); rintro e w2 ⟨A2, n2, c2, rfl, q2, b2⟩; obtain rfl : n2 = 8 := (own_len q2).symm.trans HLP.out; have R2 := Lib.hid (Rd.own q2); have S2 := Lib.hid (R1.out.below b2); have B2 := Lib.hid (B1.out.trans (b2.mono B1.out.size)); clear q2 b2))
    | (go_at_call 30; ((refine (cat_any _ 2 2 [x1, x2] _ (RdBs.built2 w2 _ S2.out R2.out) HL.out).mono ?_); rintro e w3 ⟨A3, n3, c3, rfl, q3, b3⟩; have O3 := Lib.hid q3; have M3 := Lib.hid b3; clear q3 b3)))
  go_ret
  exact New.from (B2.out.alloc B2.out.size _) ⟨A3, n3, c3, rfl, O3.out, M3.out⟩
set_option maxHeartbeats 1000000 in
theorem textSum_any (As : Option Addr) (cs : Nat) (salt : List UInt8) (Ar : Option Addr) (cr : Nat) (root : List UInt8) (n : Nat) (hn : n < 18446744073709551616) (At : Option Addr) (nt ct : Nat) (text : List UInt8) (w : World) (hk : GK w) (hs : Rd w As 32 cs salt) (hr : Rd w Ar 32 cr root) (ht : Rd w At nt ct text) (h6 : nt ≤ 65536) :
    Calls Tryz.prog 25 #[.slice As 32 cs, .slice Ar 32 cr, .int .u64 (n : Int), .slice At nt ct] w (New w.heap.size w (textL salt root n text)) := by
  have HB := Lib.hid (show ∀ X, Calls Tryz.prog 24 #[.int .u64 (n : Int)] X (New X.heap.size X (longL n)) from fun X => bytesOf_any n hn X)
  have HLL := Lib.hid (long_len n)
  have HS := Lib.hid hs
  have HR := Lib.hid hr
  have HT := Lib.hid ht
  have HK := Lib.hid hk
  unfold textL
  generalize longL n = ll at *
  have HL := Lib.hid (show [salt, root, ll].flatten.length = 96 by have := HLL.out; simp [hs.len, hr.len, this])
  have HN := Lib.hid (show ∀ X A c, GK X → Rd X A 96 c [salt, root, ll].flatten → Rd X At nt ct text → Calls Tryz.prog 57 #[.int .u8 2, .slice A 96 c, .slice At nt ct] X (New X.heap.size X (numL 2 [salt, root, ll].flatten text)) from fun X A c h1 h2 h3 => num_any 2 A 96 c _ At nt ct text X h1 h2 h3 (by omega) (by omega))
  generalize numL 2 [salt, root, ll].flatten text = zz at *
  clear hs hr ht hk
  go_enter Tryz.func25, Tryz.ntmps25
  go_wp2_with (first
    | (go_at_call 24; ((with_reducible refine (HB.out _).mono ?_); rintro e w1 ⟨A1, n1, c1, rfl, q1, b1⟩; obtain rfl : n1 = 32 := (own_len q1).symm.trans HLL.out; have R1 := Lib.hid (Rd.own q1); have B1 := Lib.hid b1; clear q1 b1))
    | (go_at_call 30; ((refine (cat_any _ 3 3 [salt, root, ll] _ (RdBs.built3At w1 _ rfl _ (HS.out.below B1.out) (HR.out.below B1.out) R1.out) (by rw [HL.out]; omega)).mono ?_); rintro e w2 ⟨A2, n2, c2, rfl, q2, b2⟩; obtain rfl : n2 = 96 := (own_len q2).symm.trans HL.out; have R2 := Lib.hid (Rd.own q2); have B1' := B1.out.alloc B1.out.size (.cells #[.slice As 32 cs, .slice Ar 32 cr, .slice A1 32 c1] 24); have B2 := Lib.hid (B1'.trans (b2.mono B1'.size)); clear q2 b2 B1'))
    | (go_at_call 57; ((with_reducible refine (HN.out _ A2 c2 (HK.out.bel B2.out) R2.out (HT.out.below B2.out)).mono ?_); rintro e w3 ⟨A3, n3, c3, rfl, q3, b3⟩; have O3 := Lib.hid q3; have M3 := Lib.hid b3; clear q3 b3)))
  go_ret
  exact New.from B2.out ⟨A3, n3, c3, rfl, O3.out, M3.out⟩
end Go.Proofs.YtkpfppiedadmbaaGreatDoor.S16
