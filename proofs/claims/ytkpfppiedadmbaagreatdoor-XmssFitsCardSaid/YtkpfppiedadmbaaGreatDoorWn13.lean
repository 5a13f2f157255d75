/-
  Texts put together: WpR9, Int, DigC. No statement is proved here.
-/
import Derived.Test.YtkpfppiedadmbaaGreatDoorWn12
import Derived.Test.YtkpfppiedadmbaaGreatDoorWn01
import Derived.Test.YtkpfppiedadmbaaGreatDoorWn02
import Derived.Deep.DrawnRows
import Derived.Deep.AppendLies
import Derived.Lib.Hide
import Derived.OwnWalk

/-
  What the document's own May and Leaf of layer 15 do. No statement is proved here.
-/
namespace Go.Proofs.YtkpfppiedadmbaaGreatDoor.S15
set_option linter.unusedSimpArgs false
set_option linter.unusedVariables false
set_option maxRecDepth 1024
open Go.RowKit

def mayN (ns nl ne : Nat) : Bool := decide (ns = 32) && (decide (nl = 32) && decide (ne = 32))
set_option maxHeartbeats 4000000 in
theorem rmay_any15 (As : Option Addr) (ns cs : Nat) (Al : Option Addr) (nl cl : Nat) (Ae : Option Addr) (ne ce : Nat) (w : World) :
    Calls Tryz.prog 64 #[.agg (mkA As ns cs Al nl cl Ae ne ce)] w fun e w' => e = .returned (.bool (mayN ns nl ne)) ∧ Below w.heap.size w w' := by
  have B0 : Below w.heap.size w (w.alloc (.cells (mkA As ns cs Al nl cl Ae ne ce) 26)) := (Below.refl _ _).alloc (Nat.le_refl _) _
  by_cases h1 : ns = 32
  · have e1 : ((ns : Int) == 32) = true := by simp; omega
    by_cases h2 : nl = 32
    · have e2 : ((nl : Int) == 32) = true := by simp; omega
      by_cases h3 : ne = 32
      · have e3 : ((ne : Int) == 32) = true := by simp; omega
        have e : mayN ns nl ne = true := by simp [mayN, h1, h2, h3]
        rw [e]
        clear e
        subst h1 h2 h3
        have BH := Lib.hid B0
        clear B0
        go_enter Tryz.func64, Tryz.ntmps64
        go_wp2
        go_ret
        exact ⟨rfl, BH.out⟩
      · have e3 : ((ne : Int) == 32) = false := by simp; omega
        have e : mayN ns nl ne = false := by simp [mayN, h3]
        rw [e]
        clear e
        subst h1 h2
        have BH := Lib.hid B0
        clear B0
        go_enter Tryz.func64, Tryz.ntmps64
        go_wp2
        go_ret
        exact ⟨rfl, BH.out⟩
    · have e2 : ((nl : Int) == 32) = false := by simp; omega
      have e : mayN ns nl ne = false := by simp [mayN, h2]
      rw [e]
      clear e
      subst h1
      have BH := Lib.hid B0
      clear B0
      go_enter Tryz.func64, Tryz.ntmps64
      go_wp2
      go_ret
      exact ⟨rfl, BH.out⟩
  · have e1 : ((ns : Int) == 32) = false := by simp; omega
    have e : mayN ns nl ne = false := by simp [mayN, h1]
    rw [e]
    clear e
    have BH := Lib.hid B0
    clear B0
    go_enter Tryz.func64, Tryz.ntmps64
    go_wp2
    go_ret
    exact ⟨rfl, BH.out⟩
/-- The address that a leaf begins with. -/
abbrev adQ (ly tr qq : Nat) : Ad := ⟨ly, tr, 0, qq, 0, 0⟩
theorem leafL_eq (sec sd : List UInt8) (D : Ad) : leafL sec sd D = leafS sd D 7 0 (endsL sec sd D) := rfl
theorem ends_len (sec sd : List UInt8) (D : Ad) : (endsL sec sd D).length = 67 := by simp [endsL]
theorem ends_get (sec sd : List UInt8) (D : Ad) (k : Nat) (h : k < 67) : (endsL sec sd D)[k]?.getD [] = upL sd D k 0 15 (secL sec D k) := by simp [endsL, h]
theorem ends_32 (sec sd : List UInt8) (D : Ad) : ∀ r ∈ endsL sec sd D, r.length = 32 := by
  intro r hr
  obtain ⟨i, _, rfl⟩ := List.mem_map.1 hr
  exact up_len _ _ _ _ _ _ (num_len _ _ _)
abbrev qA (ly tr qq : Nat) : Array Value := #[.int .u32 (ly : Int), .int .u64 (tr : Int), .int .u32 0, .int .u32 (qq : Int), .int .u32 0, .int .u32 0]
theorem keep9 {w' : World} {g d : Nat} {T T' : TypeId} {As Al Ae : Option Addr} {ns cs nl cl ne ce ly tr qq : Nat} (h : Bk w' g T (mkA As ns cs Al nl cl Ae ne ce)) (h' : Bk w' d T' (qA ly tr qq)) : w'.cell? ⟨g, 0, none⟩ = some (.slice As ns cs) ∧ w'.cell? ⟨g, 1, none⟩ = some (.slice Al nl cl) ∧ w'.cell? ⟨g, 2, none⟩ = some (.slice Ae ne ce) ∧ w'.cell? ⟨d, 0, none⟩ = some (.int .u32 (ly : Int)) ∧ w'.cell? ⟨d, 1, none⟩ = some (.int .u64 (tr : Int)) ∧ w'.cell? ⟨d, 2, none⟩ = some (.int .u32 0) ∧ w'.cell? ⟨d, 3, none⟩ = some (.int .u32 (qq : Int)) ∧ w'.cell? ⟨d, 4, none⟩ = some (.int .u32 0) ∧ w'.cell? ⟨d, 5, none⟩ = some (.int .u32 0) :=
  ⟨h.cell 0, h.cell 1, h.cell 2, h'.cell 0, h'.cell 1, h'.cell 2, h'.cell 3, h'.cell 4, h'.cell 5⟩
set_option maxHeartbeats 4000000 in
theorem rleaf_core (As : Option Addr) (cs : Nat) (Al : Option Addr) (cl : Nat) (Ae : Option Addr) (ce : Nat) (ly tr qq : Nat) (w : World) (S U : Nat → List UInt8) (E : List (List UInt8)) (zz : List UInt8)
    (my : ∀ X, Calls Tryz.prog 64 #[.agg #[.slice As 32 cs, .slice Al 32 cl, .slice Ae 32 ce]] X fun e w' => e = .returned (.bool true) ∧ Below X.heap.size X w')
    (sec : ∀ (X : World) (k : Nat), Below w.heap.size w X → k < 67 → Calls Tryz.prog 69 #[.agg #[.slice As 32 cs, .slice Al 32 cl, .slice Ae 32 ce], .agg #[.int .u32 (ly : Int), .int .u64 (tr : Int), .int .u32 0, .int .u32 (qq : Int), .int .u32 0, .int .u32 0], .int .i64 (k : Int)] X (New X.heap.size X (S k)))
    (up : ∀ (X : World) (k : Nat) (B : Option Addr) (cB : Nat), Below w.heap.size w X → k < 67 → Rd X B 32 cB (S k) → Calls Tryz.prog 68 #[.slice Ae 32 ce, .agg #[.int .u32 (ly : Int), .int .u64 (tr : Int), .int .u32 0, .int .u32 (qq : Int), .int .u32 0, .int .u32 0], .int .i64 (k : Int), .int .i64 0, .int .i64 15, .slice B 32 cB] X (New X.heap.size X (U k)))
    (sum : ∀ (X : World) (B : Option Addr) (cB : Nat), Below w.heap.size w X → RdBs X B 67 cB E → Calls Tryz.prog 77 #[.slice Ae 32 ce, .agg #[.int .u32 (ly : Int), .int .u64 (tr : Int), .int .u32 0, .int .u32 (qq : Int), .int .u32 0, .int .u32 0], .slice B 67 cB, .int .u32 0] X (Gives32 X zz))
    (sl : ∀ k, (S k).length = 32) (ul : ∀ k, (U k).length = 32) (eg : ∀ k, k < 67 → E[k]?.getD [] = U k) (el : E.length = 67) :
    Calls Tryz.prog 65 #[.agg (mkA As 32 cs Al 32 cl Ae 32 ce), .int .u32 (ly : Int), .int .u64 (tr : Int), .int .u32 (qq : Int)] w (Gives32 w zz) := by
  have MY := Lib.hid my
  have SEC := Lib.hid sec
  have UP := Lib.hid up
  have SUM := Lib.hid sum
  have SL := Lib.hid sl
  have UL := Lib.hid ul
  have EG := Lib.hid eg
  have EL := Lib.hid el
  clear my sec up sum sl ul eg el
  obtain ⟨i0, hi, hz0, hz1, hz2⟩ := info_parts Tryz.infoRows
  have HI := Lib.hid hi
  clear hi
  obtain ⟨g, hg⟩ : ∃ g, g = w.heap.size := ⟨_, rfl⟩
  have HG := Lib.hid hg
  go_enter Tryz.func65, Tryz.ntmps65
  go_upto_region 1 with (fail)
  obtain ⟨w0, hw0⟩ : ∃ w0, w.alloc (.cells (mkA As 32 cs Al 32 cl Ae 32 ce) 26) = w0 := ⟨_, rfl⟩
  have M0 := Lib.hid (show Bk w0 g 26 (mkA As 32 cs Al 32 cl Ae 32 ce) by rw [← hw0, hg]; exact Bk.new _ _ _)
  have B0 := Lib.hid (show Below w.heap.size w w0 by rw [← hw0]; exact (Below.refl _ _).alloc (Nat.le_refl _) _)
  first
    | rw [hw0, ← hg]
    | (trace_state; fail)
  have k0 : w0.cell? ⟨g, 0, none⟩ = some (.slice As 32 cs) := M0.out.cell 0
  have k1 : w0.cell? ⟨g, 1, none⟩ = some (.slice Al 32 cl) := M0.out.cell 1
  have k2 : w0.cell? ⟨g, 2, none⟩ = some (.slice Ae 32 ce) := M0.out.cell 2
  clear hw0 hg
  go_upto_region 3 with (go_at_call 64; ((with_reducible refine (MY.out _).mono ?_); rintro e w1 ⟨rfl, b1⟩; have B1 := Lib.hid (B0.out.trans (b1.mono B0.out.size)); have M1 := Lib.hid (M0.out.below b1 M0.out.lt); clear b1))
  go_upto_region 4 with (fail)
  obtain ⟨d, hd⟩ : ∃ d, w1.heap.size = d := ⟨_, rfl⟩
  obtain ⟨w2, hw2⟩ : ∃ w2, w1.alloc (.cells (qA ly tr qq) 76) = w2 := ⟨_, rfl⟩
  have D2 : Bk w2 d 76 (qA ly tr qq) := by rw [← hw2]; exact Bk.newAt _ _ _ _ hd
  have M2 : Bk w2 g 26 (mkA As 32 cs Al 32 cl Ae 32 ce) := by rw [← hw2]; exact M1.out.alloc _
  have B2 : Below w.heap.size w w2 := by rw [← hw2]; exact B1.out.alloc B1.out.size _
  have DG := Lib.hid (show g < d ∧ w.heap.size ≤ d from ⟨by rw [← hd]; exact M1.out.lt, by rw [← hd]; exact B1.out.size⟩)
  first
    | rw [hw2, hd]
    | (trace_state; fail)
  clear hw2 hd k0 k1 k2
  go_wp2_with (fail)
  go_loopw [10, 11] (fun nx i wr => ∃ (k : Nat) (vs : List Value), k ≤ 67 ∧ i = .int .i64 (k : Int) ∧ Rows wr (d + 1) nx k vs (E.take k) ∧ Bk wr d 76 (qA ly tr qq) ∧ Bk wr g 26 (mkA As 32 cs Al 32 cl Ae 32 ce) ∧ Below w.heap.size w wr) (fun _ i _ => 67 - (intOf i).toNat)
  case atStart => exact ⟨0, [], by omega, rfl, Rows.nil_ _ _, D2, M2, B2⟩
  case round =>
    clear D2 M2 B2
    obtain ⟨k, vs, hk, rfl, hrows, hD, hM, hB⟩ := hrel
    obtain ⟨Av, cv, rfl⟩ := hrows.form
    have HR3 := Lib.hid hrows
    have HD3 := Lib.hid hD
    have HM3 := Lib.hid hM
    have HB3 := Lib.hid hB
    by_cases hlt : k < 67
    · have T0 : (k : Int) < 67 := by omega
      have HNX := Lib.hid (show E.take (k + 1) = E.take k ++ [U k] by rw [take_next (by have := EL.out; omega), EG.out k hlt])
      clear hrows hD hM hB
      go_upto_region 8 with (fail)
      (go_region_held3 (fun w' => w'.cell? ⟨g, 0, none⟩ = some (.slice As 32 cs) ∧ w'.cell? ⟨g, 1, none⟩ = some (.slice Al 32 cl) ∧ w'.cell? ⟨g, 2, none⟩ = some (.slice Ae 32 ce) ∧ w'.cell? ⟨d, 0, none⟩ = some (.int .u32 (ly : Int)) ∧ w'.cell? ⟨d, 1, none⟩ = some (.int .u64 (tr : Int)) ∧ w'.cell? ⟨d, 2, none⟩ = some (.int .u32 0) ∧ w'.cell? ⟨d, 3, none⟩ = some (.int .u32 (qq : Int)) ∧ w'.cell? ⟨d, 4, none⟩ = some (.int .u32 0) ∧ w'.cell? ⟨d, 5, none⟩ = some (.int .u32 0))
        (first
          | exact keep9 M6.out D6.out
          | exact keep9 (M5.out.alloc _) (D5.out.alloc _)
          | exact keep9 M5.out D5.out
          | exact keep9 M4.out D4.out
          | exact keep9 HM3.out HD3.out)
        (first
          | (go_at_call 69; ((with_reducible refine (SEC.out _ k HB3.out.drew hlt).mono ?_)); rintro e w4 ⟨A4, n4, c4, rfl, q4, b4⟩; obtain rfl : n4 = 32 := (own_len q4).symm.trans (SL.out k); have O4 := Lib.hid (Rd.own q4); have B4 := Lib.hid ((HB3.out.drew).trans (b4.mono HB3.out.size)); have M4 := Lib.hid ((HM3.out.drew).below b4 (HM3.out.drew).lt); have D4 := Lib.hid ((HD3.out.drew).below b4 (HD3.out.drew).lt); have R4 := Lib.hid ((HR3.out.drew).below b4); clear q4 b4)
          | (go_at_call 68; ((with_reducible refine (UP.out _ k A4 c4 B4.out hlt O4.out).mono ?_)); rintro e w5 ⟨A5, n5, c5, rfl, q5, b5⟩; obtain rfl : n5 = 32 := (own_len q5).symm.trans (UL.out k); have O5 := Lib.hid (Rd.own q5); have B5 := Lib.hid ((B4.out).trans (b5.mono B4.out.size)); have M5 := Lib.hid ((M4.out).below b5 (M4.out).lt); have D5 := Lib.hid ((D4.out).below b5 (D4.out).lt); have W5 := Lib.hid (R4.out.newer q5); have R5 := Lib.hid ((R4.out).below b5); clear q5 b5)
          | (refine step_append_lies _ (by rfl) (.tmp 23) (.tmp 33) 61 (by rfl) (d + 1) 24 i0 _ 1 24 Tryz.underlying61 HI.out hz0 hz1 hz2 rfl (by omega) (.slice Av k cv) k vs (by rfl) (R5.out.alloc _).own ⟨w5.heap.size, 0, none⟩ 1 1 [.slice A5 32 c5] (by rfl) (by rfl) (World.news_of_block (heap_alloc_new w5 _)) (by simp [Value.oneCell']) (by omega) (by simp only [maxLen]; omega) (by omega) (by have := D5.out.lt; simp; omega) (w5.heap.size + 1) (by simp) ?_; intro gg cap w6 hown6 hgrow6 hat6 hltg6; have D6 := Lib.hid ((D5.out.alloc _).only hgrow6 (fun e => by have := (R5.out.own.lt d e.symm).1; omega)); have M6 := Lib.hid ((M5.out.alloc _).only hgrow6 (fun e => by have := (R5.out.own.lt g e.symm).1; have := DG.out.1; omega)); have B6 := Lib.hid ((B5.out.alloc B5.out.size (.cells #[.slice A5 32 c5] 24)).grown hgrow6 (by have := B5.out.size; simp; omega) (fun k hk => by have := (R5.out.own.lt k hk).1; have := DG.out.2; omega)); have O6 := Lib.hid hown6; have W6 := Lib.hid hgrow6; have T6 := Lib.hid hat6; clear hown6 hgrow6 hat6 hltg6)
          | fail))
      go_wp2
      go_roundw
      case rel =>
        refine ⟨k + 1, vs ++ [.slice A5 32 c5], by omega, by go_num, ?_, D6.out, M6.out, B6.out⟩
        rw [HNX.out]
        exact (R5.out.alloc _).push O6.out W6.out (by simpa using T6.out) (O5.out.alloc _) W5.out
      case measure => simp [intOf]; omega
    · obtain rfl : k = 67 := by omega
      rw [List.take_of_length_le (by have := EL.out; omega)] at hrows
      have HRD := Lib.hid hrows.read
      obtain ⟨k0, k1, k2, k3, k4, k5, k6, k7, k8⟩ := keep9 hM hD
      clear hrows hD hM hB hlt hk
      go_wp2_with (go_at_call 77; ((with_reducible refine (SUM.out _ Av cv HB3.out HRD.out).mono ?_); rintro e w4 ⟨A4, c4, rfl, q4, b4⟩; have Q4 := Lib.hid q4; have N4 := Lib.hid b4; clear q4 b4))
      go_ret
      exact ⟨A4, c4, rfl, Q4.out, HB3.out.trans (N4.out.mono HB3.out.size)⟩
theorem rleaf_may (As : Option Addr) (cs : Nat) (sec : List UInt8) (Al : Option Addr) (cl : Nat) (Ae : Option Addr) (ce : Nat) (sd : List UInt8) (ly tr qq : Nat) (w : World) (hs : Rd w As 32 cs sec) (he : Rd w Ae 32 ce sd) (h1 : ly < 4294967296) (h2 : tr < 18446744073709551616) (h3 : qq < 4294967296) :
    Calls Tryz.prog 65 #[.agg (mkA As 32 cs Al 32 cl Ae 32 ce), .int .u32 (ly : Int), .int .u64 (tr : Int), .int .u32 (qq : Int)] w (Gives32 w (leafL sec sd (adQ ly tr qq))) := by
  have DOk : (adQ ly tr qq).Ok := ⟨h1, h2, by show 0 < _; omega, h3, by show 0 < _; omega, by show 0 < _; omega⟩
  exact rleaf_core As cs Al cl Ae ce ly tr qq w (fun k => secL sec (adQ ly tr qq) k) (fun k => upL sd (adQ ly tr qq) k 0 15 (secL sec (adQ ly tr qq) k)) (endsL sec sd (adQ ly tr qq)) _
    (fun X => rmay_any15 As 32 cs Al 32 cl Ae 32 ce X)
    (fun X k hX hk => rsec_any (adQ ly tr qq) DOk k (by omega) As cs sec Al 32 cl Ae 32 ce X (hs.below hX))
    (fun X k B cB hX hk hz => rup_any (adQ ly tr qq) DOk k 0 15 (by omega) (by omega) Ae ce sd B cB _ X (he.below hX) hz (by omega))
    (fun X B cB hX hz => rsum_any15 Ae ce sd 7 0 (adQ ly tr qq) DOk B 67 cB _ X (he.below hX) hz (ends_32 _ _ _) (by omega) (by omega) (by omega) (by omega))
    (fun k => num_len _ _ _) (fun k => up_len _ _ _ _ _ _ (num_len _ _ _)) (fun k h => ends_get sec sd _ k h) (ends_len _ _ _)
end Go.Proofs.YtkpfppiedadmbaaGreatDoor.S15

/-
  Rows of whole numbers that read so, and append to such a row. No statement is proved here.
-/
namespace Go.Proofs.YtkpfppiedadmbaaGreatDoor
set_option linter.unusedSimpArgs false
set_option linter.unusedVariables false
set_option maxRecDepth 1024
open Go.RowKit

theorem Tryz.infoI : (Tryz.prog.info? 3).map (fun i => (i.zero, i.size, i.bytes)) = some (some (.int .i64 0), 1, 8) := by kernel_rfl
/-- A row of numbers as values. -/
def iv (xs : List Nat) : List Value := xs.map fun (b : Nat) => Value.int .i64 (b : Int)
theorem iv_length (xs : List Nat) : (iv xs).length = xs.length := by simp [iv]
theorem iv_append (xs ys : List Nat) : iv (xs ++ ys) = iv xs ++ iv ys := by simp [iv]
theorem iv_at (xs : List Nat) (i : Nat) (h : i < xs.length) : (iv xs)[i]? = some (.int .i64 ((xs[i] : Nat) : Int)) := by simp [iv, h]
theorem iv_one (xs : List Nat) : ∀ u ∈ iv xs, u.oneCell' = true := by
  intro u hu
  simp only [iv, List.mem_map] at hu
  obtain ⟨b, _, rfl⟩ := hu
  rfl
/-- The slice value of address A, length n and capacity c reads as the numbers xs. -/
structure Ri (w : World) (A : Option Addr) (n c : Nat) (xs : List Nat) : Prop where
  len : xs.length = n
  cap : n ≤ c
  max : c ≤ maxLen
  nil : A = none → c = 0
  at_ : 0 < n → ∃ b off, A = some ⟨b, off, none⟩ ∧ b < w.heap.size ∧ ∀ j, j < n → w.cell? ⟨b, off + j, none⟩ = some (.int .i64 ((xs.getD j 0 : Nat) : Int))

theorem Ri.keep {w w' : World} {A : Option Addr} {n c : Nat} {xs : List Nat} (h : Ri w A n c xs) (hs : w.heap.size ≤ w'.heap.size)
    (hk : ∀ p : Addr, p.block < w.heap.size → w'.cell? p = w.cell? p) : Ri w' A n c xs :=
  ⟨h.len, h.cap, h.max, h.nil, fun hn => by
    obtain ⟨b, off, e, hb, hc⟩ := h.at_ hn
    exact ⟨b, off, e, Nat.lt_of_lt_of_le hb hs, fun j hj => (hk _ hb).trans (hc j hj)⟩⟩
theorem Ri.below {w w' : World} {A : Option Addr} {n c : Nat} {xs : List Nat} (h : Ri w A n c xs) (hb : Below w.heap.size w w') : Ri w' A n c xs :=
  h.keep hb.size fun _ hp => hb.cell hp
theorem Ri.alloc {w : World} {A : Option Addr} {n c : Nat} {xs : List Nat} (h : Ri w A n c xs) (o : Obj) : Ri (w.alloc o) A n c xs :=
  h.below ((Below.refl _ _).alloc (Nat.le_refl _) o)
theorem Ri.drew {w : World} {A : Option Addr} {n c : Nat} {xs : List Nat} (h : Ri w A n c xs) : Ri w.drew A n c xs := h.below (Below.refl _ _).drew
theorem Ri.nil_ (w : World) : Ri w none 0 0 [] := ⟨rfl, Nat.le_refl _, by simp [maxLen], fun _ => rfl, fun h => absurd h (by omega)⟩
/-- What is owned reads. -/
theorem Ri.own {w : World} {B e n : Nat} {A : Option Addr} {c : Nat} {xs : List Nat} (h : w.ownsRow B e 1 (.slice A n c) n (iv xs)) : Ri w A n c xs := by
  have hl : xs.length = n := by have := h.1; simp [iv_length] at this; exact this
  rcases h.2 with ⟨hv, hn⟩ | ⟨g, cap, cur, hv, _, hh, hnc, hcm, _, htake⟩
  · injection hv with h1 h2 h3
    subst h1 h2 h3
    have : xs = [] := List.eq_nil_of_length_eq_zero hl
    subst this
    exact Ri.nil_ w
  · injection hv with h1 h2 h3
    subst h1 h3
    refine ⟨hl, hnc, hcm, (fun h => by cases h), fun hn => ⟨g, 0, rfl, (Array.getElem?_eq_some_iff.1 hh).1, fun j hj => ?_⟩⟩
    have := h.cellAt j (by omega)
    rw [Nat.zero_add, this, iv_at xs j (by omega)]
    simp [List.getD, hl ▸ hj]

/-- s[lo:hi], as the model spells the address. -/
theorem Ri.cut {w : World} {A : Option Addr} {n c : Nat} {xs : List Nat} (h : Ri w A n c xs) {k : Nat} (hk : k ≤ n) :
    Ri w (if c = k then A else A.map (·.add k)) (n - k) (c - k) (xs.drop k) := by
  have hc := h.cap
  refine ⟨by simp [h.len], by omega, by have := h.max; omega, fun e => ?_, fun hn => ?_⟩
  · split at e
    · have := h.nil e; omega
    · have : A = none := by simpa using e
      have := h.nil this; omega
  · obtain ⟨b, off, rfl, hb, hcell⟩ := h.at_ (by omega)
    rw [if_neg (by omega)]
    refine ⟨b, off + k, ?_, hb, fun j hj => ?_⟩
    · simp only [Option.map_some, Addr.add]
      split
      · subst_vars; rfl
      · rfl
    · have := hcell (k + j) (by omega)
      rw [Nat.add_assoc, this]
      simp [List.getD, List.getElem?_drop]
theorem Ri.take {w : World} {A : Option Addr} {n c : Nat} {xs : List Nat} (h : Ri w A n c xs) {k : Nat} (hk : k ≤ n) : Ri w A k c (xs.take k) := by
  have hl := h.len
  have hc := h.cap
  refine ⟨by simp; omega, by omega, h.max, h.nil, fun hn => ?_⟩
  obtain ⟨b, off, rfl, hb, hcell⟩ := h.at_ (by omega)
  refine ⟨b, off, rfl, hb, fun j hj => ?_⟩
  rw [hcell j (by omega)]
  simp [List.getD, List.getElem?_take, hj]

/-- 'out = append(out, p...)': out nil or the call's own, p whatever numbers. -/
theorem append_ri {w : World} {ops : Array Oper} {rest : List Oper} {o : Oper} {a : Act} {Q : Exit → Act → World → Prop} (hgd : o.guard = none) (s x : Operand)
    (ho : o.op = .call { callee := .builtin .append, args := #[s, x], argTypes := #[86, 86] })
    (base : Nat) (v : Value) (n : Nat) (xs : List Nat) (hs : a.eval s = v) (hown : w.ownsRow base 3 1 v n (iv xs))
    (A : Option Addr) (m c : Nat) (ys : List Nat) (hx : a.eval x = .slice A m c) (hr : Ri w A m c ys) (hb : n + m ≤ 1000000000000) (hbase : base ≤ w.heap.size)
    (h : ∀ v' w', w'.ownsRow base 3 1 v' (n + m) (iv (xs ++ ys)) → w.grownBy w' v.ownBlock → wpList Tryz.prog ops Q rest (a.put o.dst v') w') : wpList Tryz.prog ops Q (o :: rest) a w := by
  obtain ⟨i0, hi, hz0, hz1, hz2⟩ := info_parts Tryz.infoI
  rcases A with _ | ad
  · have hc := hr.nil rfl
    have hm : m = 0 := by have := hr.cap; omega
    subst hc hm
    obtain rfl : ys = [] := List.eq_nil_of_length_eq_zero hr.len
    exact wpList_append_own_none hgd s x _ ho base 3 i0 1 Tryz.underlying86 hi v n (iv xs) hs hown hx (h v w (by simpa using hown) (World.grownBy.refl _ _))
  · refine wpList_append_own w hgd s x _ ho base 3 i0 (.int .i64 0) 1 8 Tryz.underlying86 hi hz0 hz1 hz2 rfl (by omega) v n (iv xs) hs hown ad m c (iv ys) hx (by simp [iv_length, hr.len]) ?_ (iv_one _)
      (by simp only [maxLen]; omega) (by omega) hbase fun v' w' h1 h2 _ => h v' w' (by rw [iv_append]; exact h1) h2
    intro j u hj
    have hl := hr.len
    have hjl : j < ys.length := by
      rcases Nat.lt_or_ge j ys.length with h | h
      · exact h
      · rw [List.getElem?_eq_none (by simpa [iv_length] using h)] at hj; cases hj
    obtain ⟨b, off, e, _, hc⟩ := hr.at_ (by omega)
    injection e with e
    subst e
    have hp : (⟨b, off, none⟩ : Addr).add j = ⟨b, off + j, none⟩ := by unfold Addr.add; split <;> simp_all
    rw [iv_at ys j hjl] at hj
    rw [hp, hc j (by omega), ← hj]
    simp [List.getD, hjl]

theorem own_leni {w : World} {B e n : Nat} {v : Value} {xs : List Nat} (h : w.ownsRow B e 1 v n (iv xs)) : xs.length = n := by
  have := h.1; simp [iv_length] at this; exact this
theorem own_lit_i (w : World) (B : Nat) (xs : List Nat) (hB : B ≤ w.heap.size) (hm : xs.length ≤ maxLen) :
    (w.alloc (.cells (iv xs).toArray 3)).ownsRow B 3 1 (.slice (some ⟨w.heap.size, 0, none⟩) xs.length xs.length) xs.length (iv xs) := by
  have := World.ownsRow_lit (base := B) (e := 3) (size := 1) w (iv xs).toArray xs.length hB hm (by simp [iv_length])
  simpa using this
theorem ri_lit (w : World) (vs : Array Value) (xs : List Nat) (h : vs.toList = iv xs) (hm : xs.length ≤ maxLen) (b : Nat) (hb : w.heap.size = b) : Ri (w.alloc (.cells vs 3)) (some ⟨b, 0, none⟩) xs.length xs.length xs := by
  subst hb
  obtain ⟨vs⟩ := vs
  simp only at h
  subst h
  exact Ri.own (own_lit_i w 0 xs (Nat.zero_le _) hm)
/-- What a call gives: numbers in new memory. -/
def NewI (B : Nat) (w : World) (xs : List Nat) (e : Ending) (w' : World) : Prop :=
  ∃ (A : Option Addr) (n c : Nat), e = .returned (.slice A n c) ∧ w'.ownsRow B 3 1 (.slice A n c) n (iv xs) ∧ Below B w w'
theorem NewI.mk {B : Nat} {w w' : World} {v : Value} {n : Nat} {xs : List Nat} (h : w'.ownsRow B 3 1 v n (iv xs)) (hb : Below B w w') : NewI B w xs (.returned v) w' := by
  obtain ⟨A, c, rfl⟩ := own_form h
  exact ⟨A, n, c, rfl, h, hb⟩
theorem newi_len {B : Nat} {w w' : World} {xs : List Nat} {e : Ending} (h : NewI B w xs e w') : ∃ (A : Option Addr) (c : Nat), e = .returned (.slice A xs.length c) ∧ Ri w' A xs.length c xs ∧ w'.ownsRow B 3 1 (.slice A xs.length c) xs.length (iv xs) ∧ Below B w w' := by
  obtain ⟨A, n, c, rfl, ho, hb⟩ := h
  have hn := own_leni ho
  subst hn
  exact ⟨A, c, rfl, Ri.own ho, ho, hb⟩
theorem run_cutIH {A : Option Addr} {n c m : Nat} {h : Int} (hh : h = (m : Nat)) (hk : m ≤ c) (W : World) :
    (Instr.slice 86 (.slice A n c) none (some (.int .i64 h)) none).run Tryz.prog W = .ok (.slice A m c) W := by
  have ee : Tryz.prog.elem 86 = 3 := by kernel_rfl
  have hs : (sizeOf 3).run Tryz.prog W = .ok 1 W := by kernel_rfl
  subst hh
  rw [run_slice_h W 86 A n c (by rw [ee]; exact Tryz.underlying86) .i64 (m : Int) (by omega) (by omega), ee, hs]
  simp only [Result.andThen, sliced, Nat.mul_one, Int.toNat_natCast, Nat.sub_zero]
  have : A.map (·.add 0) = A := by cases A <;> simp [Addr.add]
  rw [this]
  split <;> rfl
theorem run_cutIHAt {A : Option Addr} {n c m : Nat} {h : Int} (hh : h = (m : Nat)) (hk : m ≤ c) (W : World) :
    (Instr.sliceAt 86 (.slice A n c) none (some (.int .i64 h)) none).run Tryz.prog W = .ok (.slice A m c) W := by
  have ee : Tryz.prog.elem 86 = 3 := by kernel_rfl
  rw [run_sliceAt_slice W 86 _ _ _ _ (by rw [ee]; exact Tryz.underlying86)]
  exact run_cutIH hh hk W
theorem news_ri {w : World} {ad : Addr} {m c : Nat} {ys : List Nat} (hr : Ri w (some ad) m c ys) : ∀ j u, (iv ys)[j]? = some u → w.cell? (ad.add j) = some u := by
  intro j u hj
  have hl := hr.len
  have hjl : j < ys.length := by
    rcases Nat.lt_or_ge j ys.length with h | h
    · exact h
    · rw [List.getElem?_eq_none (by simpa [iv_length] using h)] at hj; cases hj
  obtain ⟨b, off, e, _, hc⟩ := hr.at_ (by omega)
  injection e with e
  subst e
  have hp : (⟨b, off, none⟩ : Addr).add j = ⟨b, off + j, none⟩ := by unfold Addr.add; split <;> simp_all
  rw [iv_at ys j hjl] at hj
  rw [hp, hc j (by omega), ← hj]
  simp [List.getD, hjl]

/-- append at a step of a region that draws its order; where the new row lies. -/
theorem step_append_ri {w : World} {ops : Array Oper} {o : Oper} {a : Act} {K : Act → World → Prop} {Q : Exit → Act → World → Prop} {E : Prop} (hw : Region.wanted o (yielded ops a.tmps) = true) (s x : Operand)
    (ho : o.op = .call { callee := .builtin .append, args := #[s, x], argTypes := #[86, 86] })
    (base : Nat) (v : Value) (n : Nat) (xs : List Nat) (hs : a.eval s = v) (hown : w.ownsRow base 3 1 v n (iv xs))
    (A : Option Addr) (m c : Nat) (ys : List Nat) (hx : a.eval x = .slice A m c) (hr : Ri w A m c ys) (hb : n + m ≤ 1000000000000) (hbase : base ≤ w.heap.size)
    (h : ∀ v' w', w'.ownsRow base 3 1 v' (n + m) (iv (xs ++ ys)) → w.grownBy w' v.ownBlock → (v'.ownBlock = v.ownBlock ∨ v'.ownBlock = some w.heap.size) → K (a.put o.dst v') w') :
    if Region.wanted o (yielded ops a.tmps) = true then Oper.wp Tryz.prog o a w K Q else E := by
  obtain ⟨i0, hi, hz0, hz1, hz2⟩ := info_parts Tryz.infoI
  rw [if_pos hw]
  rcases A with _ | ad
  · have hc := hr.nil rfl
    have hm : m = 0 := by have := hr.cap; omega
    subst hc hm
    obtain rfl : ys = [] := List.eq_nil_of_length_eq_zero hr.len
    have hrun := run_append_owned_none (P := Tryz.prog) (w := w) base 86 o.type 3 i0 1 Tryz.underlying86 hi v n (iv xs) hown
    unfold Oper.wp
    simp [execOp, ho, resolve, invoke, builtin, hs, hx, hrun, Result.andThen]
    exact h v w (by simpa using hown) (World.grownBy.refl _ _) (.inl rfl)
  · obtain ⟨v', w', hrun, h2, h3, _, h5⟩ := run_append_own_at (P := Tryz.prog) w base 86 o.type 3 i0 (.int .i64 0) 1 8 Tryz.underlying86 hi hz0 hz1 hz2 rfl (by omega) v n (iv xs) hown ad m c (iv ys)
      (by simp [iv_length, hr.len]) (news_ri hr) (iv_one _) (by simp only [maxLen]; omega) (by omega) hbase
    unfold Oper.wp
    simp [execOp, ho, resolve, invoke, builtin, hs, hx, hrun, Result.andThen]
    exact h v' w' (by rw [iv_append]; exact h2) h3 h5

end Go.Proofs.YtkpfppiedadmbaaGreatDoor

/-
  What the calls of package digits are to do, as one structure; words for them. No statement is proved here.
-/
namespace Go.Proofs.YtkpfppiedadmbaaGreatDoor.S7
set_option linter.unusedSimpArgs false
set_option linter.unusedVariables false
set_option maxRecDepth 1024
open Go.RowKit

def mayB (w : Int) : Bool := w == 1 || w == 2 || w == 4 || w == 8
theorem wid_of {w : Int} (h : mayB w = true) : ∃ v : Nat, w = (v : Int) ∧ wid v := by
  simp only [mayB, Bool.or_eq_true, beq_iff_eq] at h
  rcases h with ((h | h) | h) | h
  · exact ⟨1, h, .inl rfl⟩
  · exact ⟨2, h, .inr (.inl rfl)⟩
  · exact ⟨4, h, .inr (.inr (.inl rfl))⟩
  · exact ⟨8, h, .inr (.inr (.inr rfl))⟩
theorem may_wid {v : Nat} (h : wid v) : mayB (v : Int) = true := by rcases h with h | h | h | h <;> subst h <;> rfl
def okS (n w : Int) : Bool := decide (1 ≤ n) && decide (n ≤ 64) && mayB w
theorem okS_of {n w : Int} (h : okS n w = true) : ∃ m v : Nat, n = (m : Int) ∧ w = (v : Int) ∧ 1 ≤ m ∧ m ≤ 64 ∧ wid v := by
  simp only [okS, Bool.and_eq_true, decide_eq_true_eq] at h
  obtain ⟨v, rfl, hv⟩ := wid_of h.2
  exact ⟨n.toNat, v, by omega, rfl, by omega, by omega, hv⟩
theorem pow_lt9 {j : Nat} (h : j ≤ 8) : 2 ^ j ≤ 256 := Nat.le_trans (Nat.pow_le_pow_right (by omega) h) (by decide)
theorem nd_zero (b f : Nat) : nd b f 0 = 0 := by cases f <;> simp [nd]
theorem nd_step (b f x : Nat) (h : x ≠ 0) : nd b (f + 1) x = nd b f (x / b) + 1 := by simp [nd, h]
theorem own_alloc {w : World} {B e size n : Nat} {v : Value} {xs : List Value} (h : w.ownsRow B e size v n xs) (o : Obj) : (w.alloc o).ownsRow B e size v n xs := h.alloc o
theorem own_nili (w : World) (B : Nat) : w.ownsRow B 3 1 (.slice none 0 0) 0 (iv []) := World.ownsRow_nil _ _ _ _
theorem own_lit8 (w : World) (B : Nat) (xs : List UInt8) (hB : B ≤ w.heap.size) (hm : xs.length ≤ maxLen) :
    (w.alloc (.cells (bv xs).toArray 5)).ownsRow B 5 1 (.slice (some ⟨w.heap.size, 0, none⟩) xs.length xs.length) xs.length (bv xs) := by
  have := World.ownsRow_lit (base := B) (e := 5) (size := 1) w (bv xs).toArray xs.length hB hm (by simp [bv_length])
  simpa using this
theorem rd_lit8 (w : World) (vs : Array Value) (xs : List UInt8) (h : vs.toList = bv xs) (hm : xs.length ≤ maxLen) (b : Nat) (hb : w.heap.size = b) : Rd (w.alloc (.cells vs 5)) (some ⟨b, 0, none⟩) xs.length xs.length xs := by
  subst hb
  obtain ⟨vs⟩ := vs
  simp only at h
  subst h
  exact Rd.own (own_lit8 w 0 xs (Nat.zero_le _) hm)
theorem own_basei {w : World} {B B' e size n : Nat} {v : Value} {xs : List Value} (h : w.ownsRow B e size v n xs) (hB : B' ≤ B) : w.ownsRow B' e size v n xs := by
  refine ⟨h.1, ?_⟩
  rcases h.2 with h | ⟨g, cap, cur, h1, h2, h3⟩
  · exact .inl h
  · exact .inr ⟨g, cap, cur, h1, by omega, h3⟩
/-- make of bytes where it is guarded. -/
theorem make_zz {w : World} {ops : Array Oper} {rest : List Oper} {o : Oper} {a : Act} {Q : Exit → Act → World → Prop} (hw : Region.wanted o (yielded ops a.tmps) = true)
    (l c : Operand) (hop : o.op = Op.makeSlice 24 l c) (base : Nat) (n : Nat) {kl kc : IntKind} {L C : Int} (hl : a.eval l = .int kl L) (hc : a.eval c = .int kc C) (hL : L = (n : Int)) (hC : C = (n : Int)) (b2 : n ≤ 1000000) (b4 : base ≤ w.heap.size)
    (hK : ∀ w', w'.ownsRow base 5 1 (.slice (some ⟨w.heap.size, 0, none⟩) n n) n (bv (List.replicate n 0)) → w.grownBy w' none → wpList Tryz.prog ops Q rest (a.put o.dst (.slice (some ⟨w.heap.size, 0, none⟩) n n)) w') :
    wpList Tryz.prog ops Q (o :: rest) a w := by
  obtain ⟨i0, hi, hz0, hz1, hz2⟩ := info_parts Tryz.infoU8
  obtain ⟨w', hrun, r1, r2⟩ := run_make_full (P := Tryz.prog) w base 24 5 i0 (.int .u8 0) 1 Tryz.underlying24 hi hz0 hz1 kl kc n (by rw [hz2]; omega) (by unfold maxLen; omega) b4
  subst hL
  subst hC
  unfold wpList
  rw [if_pos hw]
  left
  unfold Oper.wp
  simp [execOp, hop, hl, hc, hrun, Result.andThen]
  refine hK w' ?_ r2
  rw [Nat.mul_one] at r1
  rw [← bv_zero]
  exact r1
def ofW (w : Int) (xs : List UInt8) : List Nat := if mayB w = true then ofL w.toNat xs else []
def lackW (w : Int) (xs : List UInt8) : Nat := if mayB w = true then lk w.toNat (ofL w.toNat xs) else 0
def shW (n w : Int) : Nat × Nat × Nat := if okS n w = true then (shU n.toNat w.toNat, shV n.toNat w.toNat, shL n.toNat w.toNat) else (0, 0, 0)
def allW (w : Int) (xs : List UInt8) : List Nat := if okS xs.length w = true then allL w.toNat xs else []
/-- What a call gives: numbers that read so. -/
def GivesI (B : Nat) (w : World) (xs : List Nat) (e : Ending) (w' : World) : Prop := ∃ (A : Option Addr) (c : Nat), e = .returned (.slice A xs.length c) ∧ Ri w' A xs.length c xs ∧ Below B w w'
theorem GivesI.of_new {B : Nat} {w w' : World} {xs : List Nat} {e : Ending} (h : NewI B w xs e w') : GivesI B w xs e w' := by
  obtain ⟨A, c, h1, h2, _, h4⟩ := newi_len h
  exact ⟨A, c, h1, h2, h4⟩
/-- What the calls of package digits do, in a world that holds what they read. -/
structure DC where
  ok : World → Prop
  bel : ∀ {w w' : World}, ok w → Below w.heap.size w w' → ok w'
  may : ∀ (w : Int) (W : World), ok W → Calls Tryz.prog 106 #[.int .i64 w] W fun e w' => e = .returned (.bool (mayB w)) ∧ Below W.heap.size W w'
  of : ∀ (A : Option Addr) (n c : Nat) (xs : List UInt8) (w : Int) (W : World), ok W → Rd W A n c xs → n ≤ 100000 → Calls Tryz.prog 84 #[.slice A n c, .int .i64 w] W (GivesI W.heap.size W (ofW w xs))
  lack : ∀ (A : Option Addr) (n c : Nat) (xs : List UInt8) (w : Int) (W : World), ok W → Rd W A n c xs → n ≤ 100000 → Calls Tryz.prog 83 #[.slice A n c, .int .i64 w] W fun e w' => e = .returned (.int .i64 ((lackW w xs : Nat) : Int)) ∧ Below W.heap.size W w'
  shape : ∀ (n w : Int) (W : World), ok W → Calls Tryz.prog 82 #[.int .i64 n, .int .i64 w] W fun e w' => e = .returned (.tuple #[.int .i64 (((shW n w).1 : Nat) : Int), .int .i64 (((shW n w).2.1 : Nat) : Int), .int .i64 (((shW n w).2.2 : Nat) : Int)]) ∧ Below W.heap.size W w'
  all : ∀ (A : Option Addr) (n c : Nat) (xs : List UInt8) (w : Int) (W : World), ok W → Rd W A n c xs → n ≤ 100000 → Calls Tryz.prog 59 #[.slice A n c, .int .i64 w] W (GivesI W.heap.size W (allW w xs))
end Go.Proofs.YtkpfppiedadmbaaGreatDoor.S7
