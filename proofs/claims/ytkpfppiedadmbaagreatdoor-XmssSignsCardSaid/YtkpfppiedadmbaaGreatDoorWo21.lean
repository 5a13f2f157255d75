/-
  Texts put together: WpK4, WpK5. No statement is proved here.
-/
import Derived.Test.YtkpfppiedadmbaaGreatDoorWo20
import Derived.Test.YtkpfppiedadmbaaGreatDoorWo13

/-
  The landed package adrs: sums with masks. No statement is proved here.
-/
namespace Go.Proofs.YtkpfppiedadmbaaGreatDoor.S15
set_option linter.unusedSimpArgs false
set_option linter.unusedVariables false
set_option maxRecDepth 1024
open Go.RowKit

set_option maxHeartbeats 1000000 in
theorem whole_any (A : Option Addr) (n c : Nat) (xss : List (List UInt8)) (w : World) (h : RdBs w A n c xss) (h32 : ∀ r ∈ xss, r.length = 32) :
    Calls Tryz.prog 100 #[.slice A n c] w fun e w' => e = .returned (.bool true) ∧ w = w' := by
  have l1 : n ≤ maxLen := Nat.le_trans h.cap h.max
  unfold maxLen at l1
  go_enter Tryz.func100, Tryz.ntmps100
  go_wp2
  go_loop [7] (fun i => ∃ k : Nat, k ≤ n ∧ i = .int .i64 (k : Int)) (fun i => n - (intOf i).toNat)
  case atStart => exact ⟨0, Nat.zero_le _, rfl⟩
  case round =>
    obtain ⟨k, hk, rfl⟩ := hrel
    by_cases hlt : k < n
    · obtain ⟨b, off, rfl, hb, hcell⟩ := h.at_ (by omega)
      obtain ⟨A', n', c', hc, hr⟩ := hcell k hlt
      obtain rfl : n' = 32 := by
        have e1 := hr.len
        rw [List.getElem?_eq_getElem (by rw [h.len]; exact hlt)] at e1
        rw [← e1]
        exact h32 _ (List.getElem_mem _)
      have t0 : (k : Int) < (n : Int) := by omega
      clear hcell hr
      go_wp2
      go_round
      case rel => exact ⟨k + 1, by omega, by go_num⟩
      case measure => simp [intOf]; omega
    · obtain rfl : k = n := by omega
      have t0 : ¬ (k : Int) < (k : Int) := by omega
      go_wp2
      go_ret
      exact ⟨rfl, rfl⟩
/-- What is summed: each row with its mask. -/
def mkL (sd : List UInt8) (D : Ad) (xss : List (List UInt8)) : Nat → List UInt8
  | 0 => []
  | j + 1 => mkL sd D xss j ++ xr (xss[j]?.getD []) (prfL sd (adB D (j + 1)))
theorem mkL_len (sd : List UInt8) (D : Ad) (xss : List (List UInt8)) (h32 : ∀ r ∈ xss, r.length = 32) : ∀ j, j ≤ xss.length → (mkL sd D xss j).length = 32 * j
  | 0, _ => rfl
  | j + 1, h => by
    rw [mkL, List.length_append, mkL_len sd D xss h32 j (by omega), List.getElem?_eq_getElem (by omega), Option.getD_some, xr_len (h32 _ (List.getElem_mem _)) (prf_len _ _)]
    omega
set_option maxHeartbeats 4000000 in
theorem masked_core (k : UInt8) (D : Ad) (As : Option Addr) (cs : Nat) (A : Option Addr) (n c : Nat) (xss : List (List UInt8)) (w : World) (hr : RdBs w A n c xss) (hn : n ≤ 100) (T : Nat → List UInt8) (M : Nat → List UInt8) (sd key z : List UInt8) (hs : Rd w As 32 cs sd)
    (wh : ∀ X A n c yss, RdBs X A n c yss → (∀ r ∈ yss, r.length = 32) → Calls Tryz.prog 100 #[.slice A n c] X fun e w' => e = .returned (.bool true) ∧ X = w')
    (h32 : ∀ r ∈ xss, r.length = 32) (s32 : sd.length = 32)
    (told : ∀ (X : World) (i p q : Nat), Below w.heap.size w X → i ≤ 100 → Bk X p 24 #[.slice As 32 cs] → Bk X q 76 (adA D) → Calls Tryz.prog 101 #[.int .i64 (i : Int), .pointer (some ⟨p, 0, none⟩), .pointer (some ⟨q, 0, none⟩)] X (New X.heap.size X (T i)))
    (xor : ∀ X j A c A' c', j < n → Rd X A 32 c (xss[j]?.getD []) → Rd X A' 32 c' (T (j + 1)) → Calls Tryz.prog 102 #[.slice A 32 c, .slice A' 32 c'] X (New X.heap.size X (xr (xss[j]?.getD []) (T (j + 1)))))
    (num : ∀ X A c A' m c', Below w.heap.size w X → Rd X A 32 c (T 0) → Rd X A' m c' (M n) → Calls Tryz.prog 57 #[.int .u8 (k.toNat : Int), .slice A 32 c, .slice A' m c'] X (New X.heap.size X z))
    (tl : ∀ i, (T i).length = 32) (m0 : M 0 = []) (ms : ∀ j, M (j + 1) = M j ++ xr (xss[j]?.getD []) (T (j + 1))) :
    Calls Tryz.prog 80 #[.int .u8 (k.toNat : Int), .slice As 32 cs, adV D, .slice A n c] w (New w.heap.size w z) := by
  have HR := Lib.hid hr
  have HS := Lib.hid hs
  have WH := Lib.hid (fun X => wh X A n c xss)
  have WS := Lib.hid (fun X A (h : RdBs X A 1 1 [sd]) => wh X A 1 1 [sd] h (by simp [s32]))
  have H32 := Lib.hid h32
  have TOLD := Lib.hid told
  have XOR := Lib.hid xor
  have NUM := Lib.hid num
  have TL := Lib.hid tl
  have M0 := Lib.hid m0
  have MS := Lib.hid ms
  have HLN := Lib.hid hr.len
  have hmf : ∀ (fn : Fn) (first cap : Array Value) (w : World), (Instr.makeFunc fn first cap).run Tryz.prog w = .ok (.func fn first cap) w := fun _ _ _ _ => rfl
  clear hr hs wh s32 h32 told xor num tl m0 ms
  unfold adV
  obtain ⟨g, hg⟩ : ∃ g, w.heap.size = g := ⟨_, rfl⟩
  obtain ⟨w0, hw0⟩ : ∃ w0, (w.alloc (.cells #[.slice As 32 cs] 24)).alloc (.cells (adA D) 76) = w0 := ⟨_, rfl⟩
  have P0 := Lib.hid (show Bk w0 g 24 #[.slice As 32 cs] by rw [← hw0, ← hg]; exact (Bk.new _ _ _).alloc _)
  have Q0 := Lib.hid (show Bk w0 (g + 1) 76 (adA D) by rw [← hw0, ← hg]; exact Bk.newAt _ _ _ _ (by simp))
  have B0 := Lib.hid (show Below w.heap.size w w0 by rw [← hw0]; exact ((Below.refl _ _).alloc (Nat.le_refl _) _).alloc (by simp) _)
  obtain ⟨W1, hW1⟩ : ∃ W1, w0.alloc (.cells #[.slice As 32 cs] 24) = W1 := ⟨_, rfl⟩
  have P1 := Lib.hid (show Bk W1 g 24 #[.slice As 32 cs] by rw [← hW1]; exact P0.out.alloc _)
  have Q1 := Lib.hid (show Bk W1 (g + 1) 76 (adA D) by rw [← hW1]; exact Q0.out.alloc _)
  have B1 := Lib.hid (show Below w.heap.size w W1 by rw [← hW1]; exact B0.out.alloc B0.out.size _)
  have S1 := Lib.hid (show RdBs W1 (some ⟨w0.heap.size, 0, none⟩) 1 1 [sd] by rw [← hW1]; exact RdBs.built1 w0 _ (HS.out.below B0.out))
  go_enter Tryz.func80, Tryz.ntmps80
  go_upto_region 1 with (fail)
  have k0 : w0.cell? ⟨g, 0, none⟩ = some (.slice As 32 cs) := P0.out.cell 0
  clear hw0 hg
  go_upto_region 4 with (first
    | (go_at_call 100; ((first | rw [hW1] | skip); ((with_reducible refine (WS.out W1 _ S1.out).mono ?_); rintro e w2 ⟨rfl, rfl⟩)))
    | (go_at_call 100; ((with_reducible refine (WH.out W1 (HR.out.below B1.out) H32.out).mono ?_); rintro e w2 ⟨rfl, rfl⟩)))
  go_wp2_with (fail)
  have HOE := Lib.hid (World.ownsRow_nil (size := 1) W1 w.heap.size 5)
  clear k0 hW1 P0 Q0 B0 S1
  go_loopw [10, 25] (fun out i wr => ∃ j : Nat, j ≤ n ∧ i = .int .i64 (j : Int) ∧ wr.ownsRow W1.heap.size 5 1 out (32 * j) (bv (M j)) ∧ Below W1.heap.size W1 wr) (fun _ i _ => n - (intOf i).toNat)
  case atStart => exact ⟨0, Nat.zero_le _, rfl, by rw [M0.out]; exact World.ownsRow_nil _ _ _ _, Below.refl _ _⟩
  case round =>
    obtain ⟨j, hj, rfl, hown, hbel⟩ := hrel
    obtain ⟨Av, cv, rfl⟩ := own_form hown
    have HO := Lib.hid hown
    have HB := Lib.hid hbel
    have BW := Lib.hid (B1.out.trans (hbel.mono B1.out.size))
    have PJ := Lib.hid (P1.out.below hbel P1.out.lt)
    have QJ := Lib.hid (Q1.out.below hbel Q1.out.lt)
    clear hown hbel
    by_cases hlt : j < n
    · obtain ⟨b, off, rfl, hb, hcell⟩ := (HR.out.below BW.out).at_ (by omega)
      obtain ⟨A', n', c', hc, hr⟩ := hcell j hlt
      obtain rfl : n' = 32 := by
        have e1 := hr.len
        rw [List.getElem?_eq_getElem (by rw [HLN.out]; exact hlt)] at e1
        rw [← e1]
        exact H32.out _ (List.getElem_mem _)
      have RJ := Lib.hid hr
      have t0 : (j : Int) < (n : Int) := by omega
      have TJ := Lib.hid (show Calls Tryz.prog 101 #[.int .i64 ((j : Int) + 1), .pointer (some ⟨g, 0, none⟩), .pointer (some ⟨g + 1, 0, none⟩)] wr (New wr.heap.size wr (T (j + 1))) from TOLD.out wr (j + 1) g (g + 1) BW.out (by omega) PJ.out QJ.out)
      have E := Lib.hid (MS.out j)
      clear hcell hr
      go_wp2_with (first
        | (go_at_call 101; ((with_reducible refine TJ.out.mono ?_); rintro e w2 ⟨A2, n2, c2, rfl, q2, b2⟩; obtain rfl : n2 = 32 := (own_len q2).symm.trans (TL.out _); have R2 := Lib.hid (Rd.own q2); have B2 := Lib.hid (HB.out.trans (b2.mono HB.out.size)); have O2 := Lib.hid (own_below HO.out b2); have RJ2 := Lib.hid (RJ.out.below b2); clear q2 b2))
        | (go_at_call 102; ((with_reducible refine (XOR.out w2 j A' c' A2 c2 hlt RJ2.out R2.out).mono ?_); rintro e w3 ⟨A3, n3, c3, rfl, q3, b3⟩; obtain rfl : n3 = 32 := (own_len q3).symm.trans (xr_len RJ2.out.len (TL.out _)); have R3 := Lib.hid (Rd.own q3); have B3 := Lib.hid (B2.out.trans (b3.mono B2.out.size)); have O3 := Lib.hid (own_below O2.out b3); clear q3 b3))
        | (at_builtin; refine append_rd rfl _ _ rfl W1.heap.size _ (32 * j) _ rfl O3.out A3 32 c3 _ rfl R3.out (by omega) B3.out.size ?_; intro v4 w4 o4 g4; have O4 := Lib.hid o4; have B4 := Lib.hid (B3.out.grown g4 B3.out.size (fun q hq => (O3.out.lt q hq).1)); clear o4 g4))
      go_roundw
      case rel => exact ⟨j + 1, by omega, by go_num, by rw [E.out, Nat.mul_succ]; exact O4.out, B4.out⟩
      case measure => simp [intOf]; omega
    · obtain rfl : j = n := by omega
      have t0 : ¬ (j : Int) < (j : Int) := by omega
      have T0 := Lib.hid (show Calls Tryz.prog 101 #[.int .i64 0, .pointer (some ⟨g, 0, none⟩), .pointer (some ⟨g + 1, 0, none⟩)] wr (New wr.heap.size wr (T 0)) from TOLD.out wr 0 g (g + 1) BW.out (by omega) PJ.out QJ.out)
      go_wp2_with (first
        | (go_at_call 101; ((with_reducible refine T0.out.mono ?_); rintro e w2 ⟨A2, n2, c2, rfl, q2, b2⟩; obtain rfl : n2 = 32 := (own_len q2).symm.trans (TL.out _); have R2 := Lib.hid (Rd.own q2); have B2 := Lib.hid (BW.out.trans (b2.mono BW.out.size)); have O2 := Lib.hid (Rd.own (own_below HO.out b2)); clear q2 b2))
        | (go_at_call 57; ((with_reducible refine (NUM.out w2 A2 c2 Av (32 * j) cv B2.out R2.out O2.out).mono ?_); rintro e w3 ⟨A3, n3, c3, rfl, q3, b3⟩; have O3 := Lib.hid q3; have B3 := Lib.hid b3; clear q3 b3)))
      go_ret
      exact New.from B2.out ⟨A3, n3, c3, rfl, O3.out, B3.out⟩
theorem masked_any (k : UInt8) (D : Ad) (hD : D.Ok) (As : Option Addr) (cs : Nat) (sd : List UInt8) (A : Option Addr) (n c : Nat) (xss : List (List UInt8)) (w : World) (hk : GK w) (hs : Rd w As 32 cs sd) (hr : RdBs w A n c xss) (hn : n ≤ 100) (h32 : ∀ r ∈ xss, r.length = 32) :
    Calls Tryz.prog 80 #[.int .u8 (k.toNat : Int), .slice As 32 cs, adV D, .slice A n c] w (New w.heap.size w (numL k (prfL sd (adB D 0)) (mkL sd D xss n))) := by
  have hl := hr.len
  refine masked_core k D As cs A n c xss w hr hn (fun i => prfL sd (adB D i)) (mkL sd D xss) sd (prfL sd (adB D 0)) _ hs (fun X A n c yss h h' => whole_any A n c yss X h h') h32 hs.len
    (fun X i p q hX hi hp hq => told_any D hD i (by omega) p q As cs sd X (hk.bel hX) hp hq (hs.below hX)) (fun X j A c A' c' hj h h' => ?_)
    (fun X A c A' m c' hX h h' => num_any k A 32 c _ A' m c' _ X (hk.bel hX) h h' (by omega) ?_) (fun i => prf_len _ _) rfl (fun j => rfl)
  · exact xor_any A A' 32 c 32 c' _ _ X h h' (.inl (by omega))
  · have := h'.len
    rw [mkL_len sd D xss h32 n (by omega)] at this
    omega
theorem f_any (D : Ad) (hD : D.Ok) (As : Option Addr) (cs : Nat) (sd : List UInt8) (Ax : Option Addr) (cx : Nat) (xs : List UInt8) (w : World) (hk : GK w) (hs : Rd w As 32 cs sd) (hx : Rd w Ax 32 cx xs) :
    Calls Tryz.prog 90 #[.slice As 32 cs, adV D, .slice Ax 32 cx] w (New w.heap.size w (fL sd D xs)) := by
  obtain ⟨g, hg⟩ : ∃ g, w.heap.size = g := ⟨_, rfl⟩
  obtain ⟨w0, hw0⟩ : ∃ w0, w.alloc (.cells (adA D) 76) = w0 := ⟨_, rfl⟩
  have Q0 := Lib.hid (show Bk w0 g 76 (adA D) by rw [← hw0, ← hg]; exact Bk.new _ _ _)
  have B0 := Lib.hid (show Below w.heap.size w w0 by rw [← hw0]; exact (Below.refl _ _).alloc (Nat.le_refl _) _)
  obtain ⟨w1, hw1⟩ : ∃ w1, w0.alloc (.cells #[.slice Ax 32 cx] 24) = w1 := ⟨_, rfl⟩
  have B1 := Lib.hid (show Below w.heap.size w w1 by rw [← hw1]; exact B0.out.alloc B0.out.size _)
  have R1 : RdBs w1 (some ⟨w0.heap.size, 0, none⟩) 1 1 [xs] := by rw [← hw1]; exact RdBs.built1 w0 _ (hx.below B0.out)
  have HM := Lib.hid (show Calls Tryz.prog 80 #[.int .u8 0, .slice As 32 cs, adV D, .slice (some ⟨w0.heap.size, 0, none⟩) 1 1] w1 (New w1.heap.size w1 (fL sd D xs)) from masked_any 0 D hD As cs sd _ 1 1 [xs] w1 (hk.bel B1.out) (hs.below B1.out) R1 (by omega) (by simp [hx.len]))
  have c0 : w0.cell? ⟨g, 0, none⟩ = some (.int .u32 (D.layer : Int)) := Q0.out.cell 0
  have c1 : w0.cell? ⟨g, 1, none⟩ = some (.int .u64 (D.tree : Int)) := Q0.out.cell 1
  have c2 : w0.cell? ⟨g, 2, none⟩ = some (.int .u32 (D.kind : Int)) := Q0.out.cell 2
  have c3 : w0.cell? ⟨g, 3, none⟩ = some (.int .u32 (D.a : Int)) := Q0.out.cell 3
  have c4 : w0.cell? ⟨g, 4, none⟩ = some (.int .u32 (D.b : Int)) := Q0.out.cell 4
  have c5 : w0.cell? ⟨g, 5, none⟩ = some (.int .u32 (D.c : Int)) := Q0.out.cell 5
  unfold adV at *
  clear hk hs hx R1 hD
  go_enter Tryz.func90, Tryz.ntmps90
  go_wp2_with (go_at_call 80; ((with_reducible refine HM.out.mono ?_); rintro e w2 ⟨A2, n2, c2, rfl, q2, b2⟩; have O2 := Lib.hid q2; have N2 := Lib.hid b2; clear q2 b2))
  go_ret
  exact New.from B1.out ⟨A2, n2, c2, rfl, O2.out, N2.out⟩
theorem h_any (D : Ad) (hD : D.Ok) (As : Option Addr) (cs : Nat) (sd : List UInt8) (Ax : Option Addr) (cx : Nat) (xs : List UInt8) (Ay : Option Addr) (cy : Nat) (ys : List UInt8) (w : World) (hk : GK w) (hs : Rd w As 32 cs sd) (hx : Rd w Ax 32 cx xs) (hy : Rd w Ay 32 cy ys) :
    Calls Tryz.prog 55 #[.slice As 32 cs, adV D, .slice Ax 32 cx, .slice Ay 32 cy] w (New w.heap.size w (hL sd D xs ys)) := by
  obtain ⟨g, hg⟩ : ∃ g, w.heap.size = g := ⟨_, rfl⟩
  obtain ⟨w0, hw0⟩ : ∃ w0, w.alloc (.cells (adA D) 76) = w0 := ⟨_, rfl⟩
  have Q0 := Lib.hid (show Bk w0 g 76 (adA D) by rw [← hw0, ← hg]; exact Bk.new _ _ _)
  have B0 := Lib.hid (show Below w.heap.size w w0 by rw [← hw0]; exact (Below.refl _ _).alloc (Nat.le_refl _) _)
  obtain ⟨w1, hw1⟩ : ∃ w1, w0.alloc (.cells #[.slice Ax 32 cx, .slice Ay 32 cy] 24) = w1 := ⟨_, rfl⟩
  have B1 := Lib.hid (show Below w.heap.size w w1 by rw [← hw1]; exact B0.out.alloc B0.out.size _)
  have R1 : RdBs w1 (some ⟨w0.heap.size, 0, none⟩) 2 2 [xs, ys] := by rw [← hw1]; exact RdBs.built2 w0 _ (hx.below B0.out) (hy.below B0.out)
  have HM := Lib.hid (show Calls Tryz.prog 80 #[.int .u8 1, .slice As 32 cs, adV D, .slice (some ⟨w0.heap.size, 0, none⟩) 2 2] w1 (New w1.heap.size w1 (hL sd D xs ys)) from masked_any 1 D hD As cs sd _ 2 2 [xs, ys] w1 (hk.bel B1.out) (hs.below B1.out) R1 (by omega) (by simp [hx.len, hy.len]))
  have c0 : w0.cell? ⟨g, 0, none⟩ = some (.int .u32 (D.layer : Int)) := Q0.out.cell 0
  have c1 : w0.cell? ⟨g, 1, none⟩ = some (.int .u64 (D.tree : Int)) := Q0.out.cell 1
  have c2 : w0.cell? ⟨g, 2, none⟩ = some (.int .u32 (D.kind : Int)) := Q0.out.cell 2
  have c3 : w0.cell? ⟨g, 3, none⟩ = some (.int .u32 (D.a : Int)) := Q0.out.cell 3
  have c4 : w0.cell? ⟨g, 4, none⟩ = some (.int .u32 (D.b : Int)) := Q0.out.cell 4
  have c5 : w0.cell? ⟨g, 5, none⟩ = some (.int .u32 (D.c : Int)) := Q0.out.cell 5
  unfold adV at *
  clear hk hs hx hy R1 hD
  go_enter Tryz.func55, Tryz.ntmps55
  go_wp2_with (go_at_call 80; ((with_reducible refine HM.out.mono ?_); rintro e w2 ⟨A2, n2, c2, rfl, q2, b2⟩; have O2 := Lib.hid q2; have N2 := Lib.hid b2; clear q2 b2))
  go_ret
  exact New.from B1.out ⟨A2, n2, c2, rfl, O2.out, N2.out⟩
end Go.Proofs.YtkpfppiedadmbaaGreatDoor.S15

/-
  The landed package wplus: May, the address of a step, a number as a row, and a row gone up. No statement is proved here.
-/
namespace Go.Proofs.YtkpfppiedadmbaaGreatDoor.S15
set_option linter.unusedSimpArgs false
set_option linter.unusedVariables false
set_option maxRecDepth 1024
open Go.RowKit

set_option maxHeartbeats 4000000 in
theorem may_any15 (As : Option Addr) (ns cs : Nat) (Al : Option Addr) (nl cl : Nat) (Ae : Option Addr) (ne ce : Nat) (w : World) :
    Calls Tryz.prog 52 #[.agg (mkA As ns cs Al nl cl Ae ne ce)] w fun e w' => e = .returned (.bool (mayN ns nl ne)) ∧ Below w.heap.size w w' := by
  have B0 : Below w.heap.size w (w.alloc (.cells (mkA As ns cs Al nl cl Ae ne ce) 26)) := (Below.refl _ _).alloc (Nat.le_refl _) _
  by_cases h1 : ns = 32
  · have e1 : ((ns : Int) == 32) = true := by simp; omega
    by_cases h2 : nl = 32
    · have e2 : ((nl : Int) == 32) = true := by simp; omega
      by_cases h3 : ne = 32
      · have e3 : ((ne : Int) == 32) = true := by simp; omega
        have e : mayN ns nl ne = true := by simp [mayN, h1, h2, h3]
        rw [e]
        clear e
        subst h1 h2 h3
        have BH := Lib.hid B0
        clear B0
        go_enter Tryz.func52, Tryz.ntmps52
        go_wp2
        go_ret
        exact ⟨rfl, BH.out⟩
      · have e3 : ((ne : Int) == 32) = false := by simp; omega
        have e : mayN ns nl ne = false := by simp [mayN, h3]
        rw [e]
        clear e
        subst h1 h2
        have BH := Lib.hid B0
        clear B0
        go_enter Tryz.func52, Tryz.ntmps52
        go_wp2
        go_ret
        exact ⟨rfl, BH.out⟩
    · have e2 : ((nl : Int) == 32) = false := by simp; omega
      have e : mayN ns nl ne = false := by simp [mayN, h2]
      rw [e]
      clear e
      subst h1
      have BH := Lib.hid B0
      clear B0
      go_enter Tryz.func52, Tryz.ntmps52
      go_wp2
      go_ret
      exact ⟨rfl, BH.out⟩
  · have e1 : ((ns : Int) == 32) = false := by simp; omega
    have e : mayN ns nl ne = false := by simp [mayN, h1]
    rw [e]
    clear e
    have BH := Lib.hid B0
    clear B0
    go_enter Tryz.func52, Tryz.ntmps52
    go_wp2
    go_ret
    exact ⟨rfl, BH.out⟩
/-- A leaf's cells: its seed, and where it is. -/
abbrev lfS (As : Option Addr) (cs ly tr qq : Nat) : Array Value := #[.slice As 32 cs, .int .u32 (ly : Int), .int .u64 (tr : Int), .int .u32 (qq : Int)]
theorem lfS_cells {w' : World} {g : Nat} {T : TypeId} {As : Option Addr} {cs ly tr qq : Nat} (h : Bk w' g T (lfS As cs ly tr qq)) : w'.cell? ⟨g, 0, none⟩ = some (.slice As 32 cs) ∧ w'.cell? ⟨g, 1, none⟩ = some (.int .u32 (ly : Int)) ∧ w'.cell? ⟨g, 2, none⟩ = some (.int .u64 (tr : Int)) ∧ w'.cell? ⟨g, 3, none⟩ = some (.int .u32 (qq : Int)) := ⟨h.cell 0, h.cell 1, h.cell 2, h.cell 3⟩
/-- The address within a leaf. -/
abbrev adK (ly tr qq k i j : Nat) : Ad := ⟨ly, tr, k, qq, i, j⟩
theorem Tryz.infoAd : (Tryz.prog.info? 76).map (·.size) = some 6 := by kernel_rfl
set_option maxHeartbeats 1000000 in
theorem at_any (As : Option Addr) (cs ly tr qq k i j : Nat) (hi : i < 2147483648) (hj : j < 2147483648) (w : World) :
    Calls Tryz.prog 86 #[.agg (lfS As cs ly tr qq), .int .u32 (k : Int), .int .i64 (i : Int), .int .i64 (j : Int)] w fun e w' => e = .returned (adV (adK ly tr qq k i j)) ∧ Below w.heap.size w w' := by
  have hbx := Bk.new w 85 (lfS As cs ly tr qq)
  have HX := Lib.hid ((hbx.alloc (.cells #[.int .u32 0, .int .u64 0, .int .u32 0, .int .u32 0, .int .u32 0, .int .u32 0] 76)))
  have HR := Lib.hid (Bk.newAt (w.alloc (.cells (lfS As cs ly tr qq) 85)) 76 #[.int .u32 0, .int .u64 0, .int .u32 0, .int .u32 0, .int .u32 0, .int .u32 0] (w.heap.size + 1) (by simp))
  have HB := Lib.hid (show Below w.heap.size w ((w.alloc (.cells (lfS As cs ly tr qq) 85)).alloc (.cells #[.int .u32 0, .int .u64 0, .int .u32 0, .int .u32 0, .int .u32 0, .int .u32 0] 76)) from ((Below.refl _ _).alloc (Nat.le_refl _) _).alloc (by simp) _)
  have ei : (i : Int) % 4294967296 = (i : Int) := by omega
  have ej : (j : Int) % 4294967296 = (j : Int) := by omega
  unfold adV
  clear hbx
  go_enter Tryz.func86, Tryz.ntmps86
  go_upto_region 1 with (fail)
  obtain ⟨W, hW⟩ : ∃ W, (w.alloc (.cells (lfS As cs ly tr qq) 85)).alloc (.cells #[.int .u32 0, .int .u64 0, .int .u32 0, .int .u32 0, .int .u32 0, .int .u32 0] 76) = W := ⟨_, rfl⟩
  rw [hW] at HX HR HB ⊢
  obtain ⟨c0, c1, c2, c3⟩ := lfS_cells HX.out
  have d0 := HR.out.cell 0
  have d1 := HR.out.cell 1
  have d2 := HR.out.cell 2
  have d3 := HR.out.cell 3
  have d4 := HR.out.cell 4
  have d5 := HR.out.cell 5
  have e0 := HR.out.frozen 0
  have e1 := HR.out.frozen 1
  have e2 := HR.out.frozen 2
  have e3 := HR.out.frozen 3
  have e4 := HR.out.frozen 4
  have e5 := HR.out.frozen 5
  simp at d0 d1 d2 d3 d4 d5
  clear hW
  go_wp2
  refine bodyPost_ret (results_cell_row rfl _ _ (w.heap.size + 1) 76 #[.int .u32 (ly : Int), .int .u64 (tr : Int), .int .u32 (k : Int), .int .u32 (qq : Int), .int .u32 (i : Int), .int .u32 (j : Int)] (0, 0) _ rfl ((((((HR.out.put 0 _).put 1 _).put 2 _).put 3 _).put 4 _).put 5 _) Tryz.underlying76 rfl Tryz.infoAd) rfl ?_
  exact ⟨rfl, (((((HB.out.setCell (by simp) _).setCell (by simp) _).setCell (by simp) _).setCell (by simp) _).setCell (by simp) _).setCell (by simp) _⟩
theorem row_parts (i : Nat) (h : i < 256) : b32 (UInt8.ofNat i) = [List.replicate 28 0, putL i 4].flatten := by
  have e : ∀ m, m < 256 → b32 (UInt8.ofNat m) = [List.replicate 28 0, putL m 4].flatten := by decide +kernel
  exact e i h
set_option maxHeartbeats 1000000 in
theorem row_any (i : Nat) (hi : i < 256) (w : World) : Calls Tryz.prog 89 #[.int .i64 (i : Int)] w (New w.heap.size w (b32 (UInt8.ofNat i))) := by
  rw [row_parts i hi]
  have HF := Lib.hid (show ∀ X, Calls Tryz.prog 58 #[.int .u8 0, .int .i64 28] X (New X.heap.size X (List.replicate 28 0)) from fun X => fill_any 0 28 X (by omega))
  have HP := Lib.hid (show ∀ X, Calls Tryz.prog 27 #[.int .u64 (i : Int), .int .i64 4] X (New X.heap.size X (putL i 4)) from fun X => put_any i 4 X (by omega) (by omega))
  have HLF := Lib.hid (show (List.replicate 28 (0 : UInt8)).length = 28 by simp)
  have HLP := Lib.hid (putL_length i 4)
  generalize List.replicate 28 (0 : UInt8) = x1 at *
  generalize putL i 4 = x2 at *
  have HL := Lib.hid (show [x1, x2].flatten.length ≤ 140737488355328 by have := HLF.out; have := HLP.out; simp; omega)
  have wi : IntKind.u64.wrap (i : Int) = (i : Int) := by rw [IntKind.wrap_u64]; omega
  have ei : (i : Int) % 18446744073709551616 = (i : Int) := by omega
  go_enter Tryz.func89, Tryz.ntmps89
  go_wp2_with (first
    | (go_at_call 58; ((with_reducible refine (HF.out _).mono ?_); rintro e w1 ⟨A1, n1, c1, rfl, q1, b1⟩; obtain rfl : n1 = 28 := (own_len q1).symm.trans HLF.out; have R1 := Lib.hid (Rd.own q1); have B1 := Lib.hid b1; clear q1 b1))
    | (go_at_call 27; ((with_reducible refine (HP.out _).mono ?_); rintro e w2 ⟨A2, n2, c2, rfl, q2, b2⟩; obtain rfl : n2 = 4 := (own_len q2).symm.trans HLP.out; have R2 := Lib.hid (Rd.own q2); have S2 := Lib.hid (R1.out.below b2); have B2 := Lib.hid (B1.out.trans (b2.mono B1.out.size)); clear q2 b2))
    | (go_at_call 30; ((refine (cat_any _ 2 2 [x1, x2] _ (RdBs.built2 w2 _ S2.out R2.out) HL.out).mono ?_); rintro e w3 ⟨A3, n3, c3, rfl, q3, b3⟩; have O3 := Lib.hid q3; have M3 := Lib.hid b3; clear q3 b3)))
  go_ret
  exact New.from (B2.out.alloc B2.out.size _) ⟨A3, n3, c3, rfl, O3.out, M3.out⟩
set_option maxHeartbeats 4000000 in
theorem up_core (As : Option Addr) (cs ly tr qq : Nat) (i from' to : Nat) (hi : i < 2147483648) (hto : to < 2147483648) (sd : List UInt8) (Ax : Option Addr) (cx : Nat) (xs : List UInt8) (w : World) (hx : Rd w Ax 32 cx xs) (hf : from' ≤ to) (R : List UInt8) (U : Nat → Nat → List UInt8 → List UInt8)
    (atc : ∀ (X : World) (j : Nat), j < 2147483648 → Calls Tryz.prog 86 #[.agg (lfS As cs ly tr qq), .int .u32 0, .int .i64 (i : Int), .int .i64 (j : Int)] X fun e w' => e = .returned (adV (adK ly tr qq 0 i j)) ∧ Below X.heap.size X w')
    (fc : ∀ (X : World) (j : Nat) (A : Option Addr) (c : Nat) (ys : List UInt8), Below w.heap.size w X → j < 2147483648 → Rd X A 32 c ys → Calls Tryz.prog 90 #[.slice As 32 cs, adV (adK ly tr qq 0 i j), .slice A 32 c] X (New X.heap.size X (fL sd (adK ly tr qq 0 i j) ys)))
    (u0 : U from' (to - from') xs = R) (us : ∀ j n ys, U j (n + 1) ys = U (j + 1) n (fL sd (adK ly tr qq 0 i j) ys)) (un : ∀ j ys, U j 0 ys = ys) :
    Calls Tryz.prog 61 #[.agg (lfS As cs ly tr qq), .int .i64 (i : Int), .int .i64 (from' : Int), .int .i64 (to : Int), .slice Ax 32 cx] w fun e w' => ∃ A c, e = .returned (.slice A 32 c) ∧ Rd w' A 32 c R ∧ (from' < to → ∃ B, w.heap.size ≤ B ∧ w'.ownsRow B 5 1 (.slice A 32 c) 32 (bv R)) ∧ (to ≤ from' → A = Ax) ∧ Below w.heap.size w w' := by
  unfold adV at *
  have ATC := Lib.hid atc
  have FC := Lib.hid fc
  have U0 := Lib.hid u0
  have US := Lib.hid us
  have UN := Lib.hid un
  have HX := Lib.hid hx
  obtain ⟨g, hg⟩ : ∃ g, w.heap.size = g := ⟨_, rfl⟩
  obtain ⟨w0, hw0⟩ : ∃ w0, w.alloc (.cells (lfS As cs ly tr qq) 85) = w0 := ⟨_, rfl⟩
  have G0 := Lib.hid (show Bk w0 g 85 (lfS As cs ly tr qq) by rw [← hw0, ← hg]; exact Bk.new _ _ _)
  have B0 := Lib.hid (show Below w.heap.size w w0 by rw [← hw0]; exact (Below.refl _ _).alloc (Nat.le_refl _) _)
  have HG := Lib.hid hg
  clear atc fc u0 us un hx
  go_enter Tryz.func61, Tryz.ntmps61
  go_upto_region 2 with (fail)
  clear hw0 hg
  go_loopw [4, 11] (fun x j wr => ∃ (k : Nat) (A : Option Addr) (c : Nat) (ys : List UInt8), k ≤ to - from' ∧ x = .slice A 32 c ∧ j = .int .i64 ((from' + k : Nat) : Int) ∧ Rd wr A 32 c ys ∧ (0 < k → ∃ B, w.heap.size ≤ B ∧ wr.ownsRow B 5 1 (.slice A 32 c) 32 (bv ys)) ∧ (k = 0 → A = Ax) ∧ Below w0.heap.size w0 wr ∧ U (from' + k) (to - from' - k) ys = R) (fun _ j _ => to - (intOf j).toNat)
  case atStart => exact ⟨0, Ax, cx, xs, Nat.zero_le _, rfl, by simp, HX.out.below B0.out, fun h => absurd h (by omega), fun _ => rfl, Below.refl _ _, U0.out⟩
  case round =>
    obtain ⟨k, A, c, ys, hk, rfl, rfl, hrd, hnew, hold, hB, hR⟩ := hrel
    have HNW := Lib.hid hnew
    have HOLD := Lib.hid hold
    clear hnew hold
    by_cases hlt : k < to - from'
    · obtain ⟨j, hj⟩ : ∃ j, j = from' + k := ⟨_, rfl⟩
      rw [← hj] at hR ⊢
      have t0 : (j : Int) < (to : Int) := by omega
      have HJ := Lib.hid hj
      have G1 := Lib.hid (G0.out.below hB G0.out.lt)
      have B1 := Lib.hid (B0.out.trans (hB.mono B0.out.size))
      have M1 := Lib.hid hB
      have RD := Lib.hid hrd
      have e1 := US.out j (to - from' - k - 1) ys
      rw [show to - from' - k - 1 + 1 = to - from' - k by omega, hR] at e1
      have HR := Lib.hid e1
      have ATJ := Lib.hid (show ∀ X, Calls Tryz.prog 86 #[.agg (lfS As cs ly tr qq), .int .u32 0, .int .i64 (i : Int), .int .i64 (j : Int)] X fun e w' => e = .returned (.agg #[.int .u32 (ly : Int), .int .u64 (tr : Int), .int .u32 0, .int .u32 (qq : Int), .int .u32 (i : Int), .int .u32 (j : Int)]) ∧ Below X.heap.size X w' from fun X => ATC.out X j (by omega))
      have FJ := Lib.hid (show ∀ X (A : Option Addr) (c : Nat), Below w.heap.size w X → Rd X A 32 c ys → Calls Tryz.prog 90 #[.slice As 32 cs, .agg #[.int .u32 (ly : Int), .int .u64 (tr : Int), .int .u32 0, .int .u32 (qq : Int), .int .u32 (i : Int), .int .u32 (j : Int)], .slice A 32 c] X (New X.heap.size X (fL sd (adK ly tr qq 0 i j) ys)) from fun X A c hX h => FC.out X j A c ys hX (by omega) h)
      have HL := Lib.hid (f_len sd (adK ly tr qq 0 i j) ys)
      generalize fL sd (adK ly tr qq 0 i j) ys = zs at FJ HR HL
      clear hj hB hrd hR e1
      go_upto_region 4 with (fail)
      (go_region_held3 (fun w' => w'.cell? ⟨g, 0, none⟩ = some (.slice As 32 cs) ∧ w'.cell? ⟨g, 1, none⟩ = some (.int .u32 (ly : Int)) ∧ w'.cell? ⟨g, 2, none⟩ = some (.int .u64 (tr : Int)) ∧ w'.cell? ⟨g, 3, none⟩ = some (.int .u32 (qq : Int)))
        (first
          | exact lfS_cells G3.out
          | exact lfS_cells G2.out
          | exact lfS_cells G1.out)
        (first
          | (go_at_call 86; ((with_reducible refine (ATJ.out _).mono ?_); rintro e w2 ⟨rfl, b2⟩; have B2 := Lib.hid (B1.out.drew.trans (b2.mono B1.out.size)); have M2 := Lib.hid (M1.out.drew.trans (b2.mono M1.out.size)); have R2 := Lib.hid (RD.out.drew.below b2); have G2 := Lib.hid (G1.out.drew.below b2 G1.out.drew.lt); clear b2))
          | (go_at_call 90; ((with_reducible refine (FJ.out _ A c B2.out R2.out).mono ?_); rintro e w3 ⟨A3, n3, c3, rfl, q3, b3⟩; obtain rfl : n3 = 32 := (own_len q3).symm.trans HL.out; have O3 := Lib.hid q3; have S3 := Lib.hid B2.out.size; have M3 := Lib.hid (M2.out.trans (b3.mono M2.out.size)); have G3 := Lib.hid (G2.out.below b3 G2.out.lt); clear q3 b3))
          | fail))
      go_wp2
      go_roundw
      case rel =>
        have e2 : to - from' - k - 1 = to - from' - (k + 1) := by omega
        have e3 : j + 1 = from' + (k + 1) := by have := HJ.out; omega
        exact ⟨k + 1, A3, c3, zs, by omega, rfl, by rw [← e3]; rfl, Rd.own O3.out, fun _ => ⟨_, S3.out, O3.out⟩, fun h => absurd h (by omega), M3.out, by rw [← e2, ← e3]; exact HR.out.symm⟩
      case measure => simp [intOf]; omega
    · have K0 : k = to - from' := by omega
      have t0 : ¬ ((from' + k : Nat) : Int) < (to : Int) := by omega
      have HRE : ys = R := by rw [← hR, show to - from' - k = 0 by omega]; exact (UN.out _ _).symm
      obtain ⟨j, hj⟩ : ∃ j, j = from' + k := ⟨_, rfl⟩
      rw [← hj] at t0 ⊢
      have hnew := HNW.out
      rw [HRE] at hrd hnew
      have HN := Lib.hid (show from' < to → ∃ B, w.heap.size ≤ B ∧ wr.ownsRow B 5 1 (.slice A 32 c) 32 (bv R) from fun h => hnew (by omega))
      have HOL := Lib.hid (show to ≤ from' → A = Ax from fun h => HOLD.out (by omega))
      have HRD := Lib.hid hrd
      have HB := Lib.hid (B0.out.trans (hB.mono B0.out.size))
      clear hj K0 hk hlt hR hB hrd hnew HRE
      go_wp2
      go_ret
      exact ⟨A, c, rfl, HRD.out, HN.out, HOL.out, HB.out⟩
theorem up_any (As : Option Addr) (cs ly tr qq : Nat) (i from' to : Nat) (hi : i < 2147483648) (hto : to < 2147483648) (sd : List UInt8) (Ax : Option Addr) (cx : Nat) (xs : List UInt8) (w : World) (hk : GK w) (hs : Rd w As 32 cs sd) (hx : Rd w Ax 32 cx xs) (hf : from' ≤ to) (h1 : ly < 4294967296) (h2 : tr < 18446744073709551616) (h3 : qq < 4294967296) :
    Calls Tryz.prog 61 #[.agg (lfS As cs ly tr qq), .int .i64 (i : Int), .int .i64 (from' : Int), .int .i64 (to : Int), .slice Ax 32 cx] w fun e w' => ∃ A c, e = .returned (.slice A 32 c) ∧ Rd w' A 32 c (upL sd (adQ ly tr qq) i from' (to - from') xs) ∧ (∀ a, A = some a → Ax = some a ∨ w.heap.size ≤ a.block) ∧ Below w.heap.size w w' := by
  refine (up_core As cs ly tr qq i from' to hi hto sd Ax cx xs w hx hf _ (fun j n ys => upL sd (adQ ly tr qq) i j n ys) (fun X j hj => at_any As cs ly tr qq 0 i j hi hj X)
    (fun X j A c ys hX hj h => f_any (adK ly tr qq 0 i j) ⟨h1, h2, by show 0 < _; omega, h3, by show i < _; omega, by show j < _; omega⟩ As cs sd A c ys X (hk.bel hX) (hs.below hX) h) rfl (fun j n ys => rfl) (fun j ys => rfl)).mono ?_
  rintro e w' ⟨A, c, he, hr, hn, ho, hb⟩
  refine ⟨A, c, he, hr, fun a ha => ?_, hb⟩
  by_cases h : from' < to
  · obtain ⟨B, hB, hown⟩ := hn h
    right
    rw [ha] at hown
    have := (hown.lt a.block rfl).1
    omega
  · left
    rw [← ho (by omega)]
    exact ha
end Go.Proofs.YtkpfppiedadmbaaGreatDoor.S15
