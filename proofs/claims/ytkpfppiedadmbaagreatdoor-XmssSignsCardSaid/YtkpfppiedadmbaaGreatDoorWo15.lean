/-
  Texts put together: WpRA, WpRB, WpRC, WpC. No statement is proved here.
-/
import Derived.Test.YtkpfppiedadmbaaGreatDoorWo13
import Derived.Test.YtkpfppiedadmbaaGreatDoorWo14

/-
  What the document's own Sign of layer 15 does. No statement is proved here.
-/
namespace Go.Proofs.YtkpfppiedadmbaaGreatDoor.S15
set_option linter.unusedSimpArgs false
set_option linter.unusedVariables false
set_option maxRecDepth 1024
open Go.RowKit

/-- Rows one behind another. -/
def cat (U : Nat → List UInt8) : Nat → List UInt8
  | 0 => []
  | k + 1 => cat U k ++ U k
theorem cat_flat (U : Nat → List UInt8) : ∀ k, ((List.range k).map U).flatten = cat U k
  | 0 => rfl
  | k + 1 => by rw [List.range_succ, List.map_append, List.flatten_append, cat_flat U k]; simp [cat]
theorem cat_len (U : Nat → List UInt8) (h : ∀ k, (U k).length = 32) : ∀ k, (cat U k).length = 32 * k
  | 0 => rfl
  | k + 1 => by rw [cat, List.length_append, cat_len U h k, h]; omega
set_option maxHeartbeats 4000000 in
theorem rsign_core (As : Option Addr) (cs : Nat) (Al : Option Addr) (cl : Nat) (Ae : Option Addr) (ce : Nat) (ly tr qq : Nat) (At : Option Addr) (ct : Nat) (w : World) (S U : Nat → List UInt8) (ds : List Nat)
    (my : ∀ X, Calls Tryz.prog 64 #[.agg #[.slice As 32 cs, .slice Al 32 cl, .slice Ae 32 ce]] X fun e w' => e = .returned (.bool true) ∧ Below X.heap.size X w')
    (all : ∀ X, Below w.heap.size w X → Calls Tryz.prog 67 #[.slice At 32 ct, .int .i64 4] X (NewI X.heap.size X ds))
    (sec : ∀ (X : World) (k : Nat), Below w.heap.size w X → k < 67 → Calls Tryz.prog 69 #[.agg #[.slice As 32 cs, .slice Al 32 cl, .slice Ae 32 ce], .agg #[.int .u32 (ly : Int), .int .u64 (tr : Int), .int .u32 0, .int .u32 (qq : Int), .int .u32 0, .int .u32 0], .int .i64 (k : Int)] X (New X.heap.size X (S k)))
    (up : ∀ (X : World) (k : Nat) (B : Option Addr) (cB : Nat), Below w.heap.size w X → k < 67 → Rd X B 32 cB (S k) → Calls Tryz.prog 68 #[.slice Ae 32 ce, .agg #[.int .u32 (ly : Int), .int .u64 (tr : Int), .int .u32 0, .int .u32 (qq : Int), .int .u32 0, .int .u32 0], .int .i64 (k : Int), .int .i64 0, .int .i64 ((ds.getD k 0 : Nat) : Int), .slice B 32 cB] X (New X.heap.size X (U k)))
    (sl : ∀ k, (S k).length = 32) (ul : ∀ k, (U k).length = 32) (dl : ds.length = 67) :
    Calls Tryz.prog 40 #[.agg (mkA As 32 cs Al 32 cl Ae 32 ce), .int .u32 (ly : Int), .int .u64 (tr : Int), .int .u32 (qq : Int), .slice At 32 ct] w (New w.heap.size w (cat U 67)) := by
  have MY := Lib.hid my
  have ALL := Lib.hid all
  have SEC := Lib.hid sec
  have UP := Lib.hid up
  have SL := Lib.hid sl
  have UL := Lib.hid ul
  have DL := Lib.hid dl
  have CL := Lib.hid (cat_len U ul)
  clear my all sec up sl ul dl
  obtain ⟨g, hg⟩ : ∃ g, g = w.heap.size := ⟨_, rfl⟩
  go_enter Tryz.func40, Tryz.ntmps40
  go_upto_region 1 with (fail)
  obtain ⟨w0, hw0⟩ : ∃ w0, w.alloc (.cells (mkA As 32 cs Al 32 cl Ae 32 ce) 26) = w0 := ⟨_, rfl⟩
  have M0 := Lib.hid (show Bk w0 g 26 (mkA As 32 cs Al 32 cl Ae 32 ce) by rw [← hw0, hg]; exact Bk.new _ _ _)
  have B0 := Lib.hid (show Below w.heap.size w w0 by rw [← hw0]; exact (Below.refl _ _).alloc (Nat.le_refl _) _)
  first
    | rw [hw0, ← hg]
    | (trace_state; fail)
  have k0 : w0.cell? ⟨g, 0, none⟩ = some (.slice As 32 cs) := M0.out.cell 0
  have k1 : w0.cell? ⟨g, 1, none⟩ = some (.slice Al 32 cl) := M0.out.cell 1
  have k2 : w0.cell? ⟨g, 2, none⟩ = some (.slice Ae 32 ce) := M0.out.cell 2
  clear hw0 hg
  go_upto_region 4 with (go_at_call 64; ((with_reducible refine (MY.out _).mono ?_); rintro e w1 ⟨rfl, b1⟩; have B1 := Lib.hid (B0.out.trans (b1.mono B0.out.size)); have M1 := Lib.hid (M0.out.below b1 M0.out.lt); clear b1))
  go_upto_region 5 with (fail)
  obtain ⟨d, hd⟩ : ∃ d, w1.heap.size = d := ⟨_, rfl⟩
  obtain ⟨w2, hw2⟩ : ∃ w2, w1.alloc (.cells (qA ly tr qq) 76) = w2 := ⟨_, rfl⟩
  have D2 := Lib.hid (show Bk w2 d 76 (qA ly tr qq) by rw [← hw2]; exact Bk.newAt _ _ _ _ hd)
  have M2 := Lib.hid (show Bk w2 g 26 (mkA As 32 cs Al 32 cl Ae 32 ce) by rw [← hw2]; exact M1.out.alloc _)
  have B2 := Lib.hid (show Below w.heap.size w w2 by rw [← hw2]; exact B1.out.alloc B1.out.size _)
  first
    | rw [hw2, hd]
    | (trace_state; fail)
  clear hw2 hd k0 k1 k2
  go_upto_region 6 with (go_at_call 67; ((with_reducible refine (ALL.out _ B2.out).mono ?_); intro e w3 h3; obtain ⟨A3, c3, rfl, r3, _, b3⟩ := newi_len h3; rw [DL.out] at r3; have B3 := Lib.hid (B2.out.trans (b3.mono B2.out.size)); have M3 := Lib.hid (M2.out.below b3 M2.out.lt); have D3 := Lib.hid (D2.out.below b3 D2.out.lt); clear b3 h3; rw [DL.out]))
  obtain ⟨b, off, rfl, hb, hc⟩ := r3.at_ (by omega)
  have HC := Lib.hid hc
  have HBL := Lib.hid hb
  clear hc hb r3
  go_wp2_with (fail)
  obtain ⟨wo, rfl⟩ : ∃ wo : World, wo = w3 := ⟨_, rfl⟩
  go_loopw [11, 14] (fun v i wr => ∃ k : Nat, k ≤ 67 ∧ i = .int .i64 (k : Int) ∧ wr.ownsRow wo.heap.size 5 1 v (32 * k) (bv (cat U k)) ∧ Below wo.heap.size wo wr) (fun _ i _ => 67 - (intOf i).toNat)
  case atStart => exact ⟨0, by omega, rfl, by simpa [bv, cat] using World.ownsRow_nil _ _ _ _, Below.refl _ _⟩
  case round =>
    obtain ⟨k, hk, rfl, hown, hbel⟩ := hrel
    obtain ⟨Av, cv, rfl⟩ := own_form hown
    have HO3 := Lib.hid hown
    have HB3 := Lib.hid hbel
    clear hown hbel
    by_cases hlt : k < 67
    · have T0 : (k : Int) < 67 := by omega
      have T1 : (0 : Int) ≤ (k : Int) := by omega
      obtain ⟨x, hx⟩ : ∃ x, x = ds.getD k 0 := ⟨_, rfl⟩
      have UPK := Lib.hid (fun (X : World) (B : Option Addr) (cB : Nat) (h1 : Below w.heap.size w X) (h2 : Rd X B 32 cB (S k)) => UP.out X k B cB h1 hlt h2)
      have HCK := HC.out k hlt
      rw [← hx] at UPK HCK
      have KP := Lib.hid (show ∀ w', Below wo.heap.size wo w' → w'.cell? ⟨g, 0, none⟩ = some (.slice As 32 cs) ∧ w'.cell? ⟨g, 1, none⟩ = some (.slice Al 32 cl) ∧ w'.cell? ⟨g, 2, none⟩ = some (.slice Ae 32 ce) ∧ w'.cell? ⟨d, 0, none⟩ = some (.int .u32 (ly : Int)) ∧ w'.cell? ⟨d, 1, none⟩ = some (.int .u64 (tr : Int)) ∧ w'.cell? ⟨d, 2, none⟩ = some (.int .u32 0) ∧ w'.cell? ⟨d, 3, none⟩ = some (.int .u32 (qq : Int)) ∧ w'.cell? ⟨d, 4, none⟩ = some (.int .u32 0) ∧ w'.cell? ⟨d, 5, none⟩ = some (.int .u32 0) ∧ w'.cell? ⟨b, off + k, none⟩ = some (.int .i64 (x : Int)) from by
        intro w' hw'
        obtain ⟨a0, a1, a2, a3, a4, a5, a6, a7, a8⟩ := keep9 (M3.out.below hw' M3.out.lt) (D3.out.below hw' D3.out.lt)
        exact ⟨a0, a1, a2, a3, a4, a5, a6, a7, a8, (hw'.cell (p := ⟨b, off + k, none⟩) HBL.out).trans HCK⟩)
      have BW := Lib.hid (show ∀ w', Below wo.heap.size wo w' → Below w.heap.size w w' from fun w' hw' => B3.out.trans (hw'.mono B3.out.size))
      clear hx HCK
      go_upto_region 9 with (fail)
      (go_region_held3 (fun w' => w'.cell? ⟨g, 0, none⟩ = some (.slice As 32 cs) ∧ w'.cell? ⟨g, 1, none⟩ = some (.slice Al 32 cl) ∧ w'.cell? ⟨g, 2, none⟩ = some (.slice Ae 32 ce) ∧ w'.cell? ⟨d, 0, none⟩ = some (.int .u32 (ly : Int)) ∧ w'.cell? ⟨d, 1, none⟩ = some (.int .u64 (tr : Int)) ∧ w'.cell? ⟨d, 2, none⟩ = some (.int .u32 0) ∧ w'.cell? ⟨d, 3, none⟩ = some (.int .u32 (qq : Int)) ∧ w'.cell? ⟨d, 4, none⟩ = some (.int .u32 0) ∧ w'.cell? ⟨d, 5, none⟩ = some (.int .u32 0) ∧ w'.cell? ⟨b, off + k, none⟩ = some (.int .i64 (x : Int)))
        (first
          | exact KP.out _ B6.out
          | exact KP.out _ B5.out
          | exact KP.out _ B4.out
          | exact KP.out _ HB3.out.drew)
        (first
          | (go_at_call 69; ((with_reducible refine (SEC.out _ k (BW.out _ HB3.out.drew) hlt).mono ?_)); rintro e w4 ⟨A4, n4, c4, rfl, q4, b4⟩; obtain rfl : n4 = 32 := (own_len q4).symm.trans (SL.out k); have O4 := Lib.hid (Rd.own q4); have B4 := Lib.hid ((HB3.out.drew).trans (b4.mono HB3.out.size)); have V4 := Lib.hid (own_below (own_below HO3.out (Below.refl _ _).drew) b4); clear q4 b4)
          | (go_at_call 68; ((with_reducible refine (UPK.out _ A4 c4 (BW.out _ B4.out) O4.out).mono ?_)); rintro e w5 ⟨A5, n5, c5, rfl, q5, b5⟩; obtain rfl : n5 = 32 := (own_len q5).symm.trans (UL.out k); have O5 := Lib.hid (Rd.own q5); have B5 := Lib.hid ((B4.out).trans (b5.mono B4.out.size)); have V5 := Lib.hid (own_below V4.out b5); clear q5 b5)
          | (refine step_append_rd (by rfl) (.tmp 33) (.tmp 46) (by rfl) wo.heap.size (.slice Av (32 * k) cv) (32 * k) (cat U k) (by rfl) V5.out A5 32 c5 (U k) (by rfl) O5.out (by omega) B5.out.size ?_; intro v6 w6 o6 g6 at6; have B6 := Lib.hid (B5.out.grown g6 B5.out.size (fun q hq => (V5.out.lt q hq).1)); have O6 := Lib.hid o6; clear o6 g6 at6)
          | fail))
      go_wp2
      go_roundw
      case rel => exact ⟨k + 1, by omega, by go_num, by rw [Nat.mul_succ]; exact O6.out, B6.out⟩
      case measure => simp [intOf]; omega
    · obtain rfl : k = 67 := by omega
      have HO4 := Lib.hid (own_base HO3.out B3.out.size)
      have HB4 := Lib.hid (B3.out.trans (HB3.out.mono B3.out.size))
      clear hlt hk
      go_wp2
      go_ret
      exact New.mk HO4.out HB4.out
theorem sig_cat (sec sd : List UInt8) (D : Ad) (text : List UInt8) : signL sec sd D text = cat (fun k => upL sd D k 0 ((S7.allL 4 text).getD k 0) (secL sec D k)) 67 := by
  rw [← cat_flat]
  rfl
theorem all_67 (text : List UInt8) (h : text.length = 32) : (S7.allL 4 text).length = 67 := by
  rw [S7.allL_length 4 (by unfold S7.wid; omega) text (by omega) (by omega), h]
  decide
theorem rsign_may (As : Option Addr) (cs : Nat) (sec : List UInt8) (Al : Option Addr) (cl : Nat) (Ae : Option Addr) (ce : Nat) (sd : List UInt8) (ly tr qq : Nat) (At : Option Addr) (ct : Nat) (text : List UInt8) (w : World) (hs : Rd w As 32 cs sec) (he : Rd w Ae 32 ce sd) (ht : Rd w At 32 ct text) (h1 : ly < 4294967296) (h2 : tr < 18446744073709551616) (h3 : qq < 4294967296) :
    Calls Tryz.prog 40 #[.agg (mkA As 32 cs Al 32 cl Ae 32 ce), .int .u32 (ly : Int), .int .u64 (tr : Int), .int .u32 (qq : Int), .slice At 32 ct] w (New w.heap.size w (signL sec sd (adQ ly tr qq) text)) := by
  have DOk : (adQ ly tr qq).Ok := ⟨h1, h2, by show 0 < _; omega, h3, by show 0 < _; omega, by show 0 < _; omega⟩
  rw [sig_cat]
  exact rsign_core As cs Al cl Ae ce ly tr qq At ct w (fun k => secL sec (adQ ly tr qq) k) (fun k => upL sd (adQ ly tr qq) k 0 ((S7.allL 4 text).getD k 0) (secL sec (adQ ly tr qq) k)) (S7.allL 4 text)
    (fun X => rmay_any15 As 32 cs Al 32 cl Ae 32 ce X)
    (fun X hX => S7.rall_any At 32 ct text 4 X (ht.below hX) (by unfold S7.wid; omega) (by omega) (by omega))
    (fun X k hX hk => rsec_any (adQ ly tr qq) DOk k (by omega) As cs sec Al 32 cl Ae 32 ce X (hs.below hX))
    (fun X k B cB hX hk hz => rup_any (adQ ly tr qq) DOk k 0 ((S7.allL 4 text).getD k 0) (by omega) (by have := all_le (text := text) k; omega) Ae ce sd B cB _ X (he.below hX) hz (by omega))
    (fun k => num_len _ _ _) (fun k => up_len _ _ _ _ _ _ (num_len _ _ _)) (all_67 text ht.len)
end Go.Proofs.YtkpfppiedadmbaaGreatDoor.S15

/-
  What the document's own Stands of layer 15 does. No statement is proved here.
-/
namespace Go.Proofs.YtkpfppiedadmbaaGreatDoor.S15
set_option linter.unusedSimpArgs false
set_option linter.unusedVariables false
set_option maxRecDepth 1024
open Go.RowKit

theorem keep6q {w' : World} {d : Nat} {T' : TypeId} {ly tr qq : Nat} (h' : Bk w' d T' (qA ly tr qq)) : w'.cell? ⟨d, 0, none⟩ = some (.int .u32 (ly : Int)) ∧ w'.cell? ⟨d, 1, none⟩ = some (.int .u64 (tr : Int)) ∧ w'.cell? ⟨d, 2, none⟩ = some (.int .u32 0) ∧ w'.cell? ⟨d, 3, none⟩ = some (.int .u32 (qq : Int)) ∧ w'.cell? ⟨d, 4, none⟩ = some (.int .u32 0) ∧ w'.cell? ⟨d, 5, none⟩ = some (.int .u32 0) :=
  ⟨h'.cell 0, h'.cell 1, h'.cell 2, h'.cell 3, h'.cell 4, h'.cell 5⟩
set_option maxHeartbeats 4000000 in
theorem rstands_core (As : Option Addr) (cs : Nat) (ly tr qq : Nat) (At : Option Addr) (ct : Nat) (Ag : Option Addr) (cg : Nat) (sig : List UInt8) (w : World) (U : Nat → List UInt8) (ds : List Nat) (E : List (List UInt8)) (zz : List UInt8) (sg : Rd w Ag 2144 cg sig)
    (all : ∀ X, Below w.heap.size w X → Calls Tryz.prog 67 #[.slice At 32 ct, .int .i64 4] X (NewI X.heap.size X ds))
    (up : ∀ (X : World) (k : Nat) (B : Option Addr) (cB : Nat), Below w.heap.size w X → k < 67 → Rd X B 32 cB ((sig.drop (32 * k)).take 32) → Calls Tryz.prog 68 #[.slice As 32 cs, .agg #[.int .u32 (ly : Int), .int .u64 (tr : Int), .int .u32 0, .int .u32 (qq : Int), .int .u32 0, .int .u32 0], .int .i64 (k : Int), .int .i64 ((ds.getD k 0 : Nat) : Int), .int .i64 15, .slice B 32 cB] X (New X.heap.size X (U k)))
    (sum : ∀ (X : World) (B : Option Addr) (cB : Nat), Below w.heap.size w X → RdBs X B 67 cB E → Calls Tryz.prog 77 #[.slice As 32 cs, .agg #[.int .u32 (ly : Int), .int .u64 (tr : Int), .int .u32 0, .int .u32 (qq : Int), .int .u32 0, .int .u32 0], .slice B 67 cB, .int .u32 0] X (Gives32 X zz))
    (ul : ∀ k, k < 67 → (U k).length = 32) (dl : ds.length = 67) (eg : ∀ k, k < 67 → E[k]?.getD [] = U k) (el : E.length = 67) :
    Calls Tryz.prog 50 #[.slice As 32 cs, .int .u32 (ly : Int), .int .u64 (tr : Int), .int .u32 (qq : Int), .slice At 32 ct, .slice Ag 2144 cg] w (Gives32 w zz) := by
  have ALL := Lib.hid all
  have UP := Lib.hid up
  have SUM := Lib.hid sum
  have UL := Lib.hid ul
  have DL := Lib.hid dl
  have EG := Lib.hid eg
  have EL := Lib.hid el
  have SG := Lib.hid sg
  have GC := Lib.hid (show 2144 ≤ cg from sg.cap)
  clear all up sum ul dl eg el sg
  obtain ⟨i0, hi, hz0, hz1, hz2⟩ := info_parts Tryz.infoRows
  have HI := Lib.hid hi
  clear hi
  go_enter Tryz.func50, Tryz.ntmps50
  go_upto_region 4 with (fail)
  obtain ⟨d, hd⟩ : ∃ d, w.heap.size = d := ⟨_, rfl⟩
  obtain ⟨w2, hw2⟩ : ∃ w2, w.alloc (.cells (qA ly tr qq) 76) = w2 := ⟨_, rfl⟩
  have D2 := Lib.hid (show Bk w2 d 76 (qA ly tr qq) by rw [← hw2]; exact Bk.newAt _ _ _ _ hd)
  have B2 := Lib.hid (show Below w.heap.size w w2 by rw [← hw2]; exact (Below.refl _ _).alloc (Nat.le_refl _) _)
  first
    | rw [hw2, hd]
    | (trace_state; fail)
  clear hw2 hd
  go_upto_region 5 with (go_at_call 67; ((with_reducible refine (ALL.out _ B2.out).mono ?_); intro e w3 h3; obtain ⟨A3, c3, rfl, r3, _, b3⟩ := newi_len h3; rw [DL.out] at r3; have B3 := Lib.hid (B2.out.trans (b3.mono B2.out.size)); have D3 := Lib.hid (D2.out.below b3 D2.out.lt); clear b3 h3; rw [DL.out]))
  obtain ⟨b, off, rfl, hb, hc⟩ := r3.at_ (by omega)
  have HC := Lib.hid hc
  have HBL := Lib.hid hb
  clear hc hb r3
  go_wp2_with (fail)
  obtain ⟨wo, rfl⟩ : ∃ wo : World, wo = w3 := ⟨_, rfl⟩
  go_loopw [15, 16] (fun v i wr => ∃ (k : Nat) (vs : List Value), k ≤ 67 ∧ i = .int .i64 (k : Int) ∧ Rows wr wo.heap.size v k vs (E.take k) ∧ Below wo.heap.size wo wr) (fun _ i _ => 67 - (intOf i).toNat)
  case atStart => exact ⟨0, [], by omega, rfl, Rows.nil_ _ _, Below.refl _ _⟩
  case round =>
    obtain ⟨k, vs, hk, rfl, hrows, hbel⟩ := hrel
    obtain ⟨Av, cv, rfl⟩ := hrows.form
    have HR3 := Lib.hid hrows
    have HB3 := Lib.hid hbel
    by_cases hlt : k < 67
    · have T0 : (k : Int) < 67 := by omega
      have T1 : (0 : Int) ≤ (k : Int) := by omega
      obtain ⟨x, hx⟩ : ∃ x, x = ds.getD k 0 := ⟨_, rfl⟩
      obtain ⟨P, hP⟩ : ∃ P, P = (sig.drop (32 * k)).take 32 := ⟨_, rfl⟩
      have UPK := Lib.hid (fun (X : World) (B : Option Addr) (cB : Nat) (h1 : Below w.heap.size w X) (h2 : Rd X B 32 cB ((sig.drop (32 * k)).take 32)) => UP.out X k B cB h1 hlt h2)
      have HCK := HC.out k hlt
      rw [← hx] at UPK HCK
      rw [← hP] at UPK
      have HNX := Lib.hid (show E.take (k + 1) = E.take k ++ [U k] by rw [take_next (by have := EL.out; omega), EG.out k hlt])
      have KP := Lib.hid (show ∀ w', Below wo.heap.size wo w' → w'.cell? ⟨d, 0, none⟩ = some (.int .u32 (ly : Int)) ∧ w'.cell? ⟨d, 1, none⟩ = some (.int .u64 (tr : Int)) ∧ w'.cell? ⟨d, 2, none⟩ = some (.int .u32 0) ∧ w'.cell? ⟨d, 3, none⟩ = some (.int .u32 (qq : Int)) ∧ w'.cell? ⟨d, 4, none⟩ = some (.int .u32 0) ∧ w'.cell? ⟨d, 5, none⟩ = some (.int .u32 0) ∧ w'.cell? ⟨b, off + k, none⟩ = some (.int .i64 (x : Int)) from by
        intro w' hw'
        obtain ⟨a3, a4, a5, a6, a7, a8⟩ := keep6q (D3.out.below hw' D3.out.lt)
        exact ⟨a3, a4, a5, a6, a7, a8, (hw'.cell (p := ⟨b, off + k, none⟩) HBL.out).trans HCK⟩)
      have BW := Lib.hid (show ∀ w', Below wo.heap.size wo w' → Below w.heap.size w w' from fun w' hw' => B3.out.trans (hw'.mono B3.out.size))
      obtain ⟨A', hA'⟩ : ∃ A', A' = (if cg = 32 * k then Ag else Ag.map (·.add (32 * k))) := ⟨_, rfl⟩
      obtain ⟨c', hc'⟩ : ∃ c', c' = cg - 32 * k := ⟨_, rfl⟩
      have C1 : ∀ W, (Instr.slice 24 (.slice Ag 2144 cg) (some (.int .i64 (32 * (k : Int)))) (some (.int .i64 (32 * (k : Int) + 32))) none).run Tryz.prog W = .ok (.slice A' 32 c') W := by
        intro W
        rw [hA', hc']
        exact S2.run_cutSlLH (l' := 32 * k) (m := 32) (by omega) (by omega) (by have := GC.out; omega) W
      have C2 : ∀ W, (Instr.sliceAt 24 (.slice Ag 2144 cg) (some (.int .i64 (32 * (k : Int)))) (some (.int .i64 (32 * (k : Int) + 32))) none).run Tryz.prog W = .ok (.slice A' 32 c') W := by
        intro W
        rw [hA', hc']
        exact S2.run_cutSlLHAt (l' := 32 * k) (m := 32) (by omega) (by omega) (by have := GC.out; omega) W
      have RP := Lib.hid (show ∀ X, Below w.heap.size w X → Rd X A' 32 c' P from by
        intro X hX
        rw [hA', hc', hP]
        exact ((SG.out.below hX).cut (k := 32 * k) (by omega)).take (by omega))
      have T2 : IntKind.i64.wrap (32 * (k : Int)) = 32 * (k : Int) := by rw [IntKind.wrap_i64]; omega
      have T3 : IntKind.i64.wrap (32 * (k : Int) + 32) = 32 * (k : Int) + 32 := by rw [IntKind.wrap_i64]; omega
      have ULK := Lib.hid (UL.out k hlt)
      clear hx HCK hP hA' hc' hrows hbel
      go_upto_region 9 with (fail)
      (go_region_held3 (fun w' => w'.cell? ⟨d, 0, none⟩ = some (.int .u32 (ly : Int)) ∧ w'.cell? ⟨d, 1, none⟩ = some (.int .u64 (tr : Int)) ∧ w'.cell? ⟨d, 2, none⟩ = some (.int .u32 0) ∧ w'.cell? ⟨d, 3, none⟩ = some (.int .u32 (qq : Int)) ∧ w'.cell? ⟨d, 4, none⟩ = some (.int .u32 0) ∧ w'.cell? ⟨d, 5, none⟩ = some (.int .u32 0) ∧ w'.cell? ⟨b, off + k, none⟩ = some (.int .i64 (x : Int)))
        (first
          | exact KP.out _ B6.out
          | exact KP.out _ (B5.out.alloc B5.out.size _)
          | exact KP.out _ B5.out
          | exact KP.out _ HB3.out.drew)
        (first
          | (go_at_call 68; ((with_reducible refine (UPK.out _ A' c' (BW.out _ HB3.out.drew) (RP.out _ (BW.out _ HB3.out.drew))).mono ?_)); rintro e w5 ⟨A5, n5, c5, rfl, q5, b5⟩; obtain rfl : n5 = 32 := (own_len q5).symm.trans (ULK.out); have O5 := Lib.hid (Rd.own q5); have B5 := Lib.hid ((HB3.out.drew).trans (b5.mono HB3.out.size)); have W5 := Lib.hid (HR3.out.drew.newer q5); have R5 := Lib.hid ((HR3.out.drew).below b5); clear q5 b5)
          | (refine step_append_lies _ (by rfl) (.tmp 40) (.tmp 56) 61 (by rfl) wo.heap.size 24 i0 _ 1 24 Tryz.underlying61 HI.out hz0 hz1 hz2 rfl (by omega) (.slice Av k cv) k vs (by rfl) (R5.out.alloc _).own ⟨w5.heap.size, 0, none⟩ 1 1 [.slice A5 32 c5] (by rfl) (by rfl) (World.news_of_block (heap_alloc_new w5 _)) (by simp [Value.oneCell']) (by omega) (by simp only [maxLen]; omega) (by omega) (by have := B5.out.size; simp; omega) (w5.heap.size + 1) (by simp) ?_; intro gg cap w6 hown6 hgrow6 hat6 hltg6; have B6 := Lib.hid ((B5.out.alloc B5.out.size (.cells #[.slice A5 32 c5] 24)).grown hgrow6 (by have := B5.out.size; simp; omega) (fun k hk => (R5.out.own.lt k hk).1)); have O6 := Lib.hid hown6; have W6 := Lib.hid hgrow6; have T6 := Lib.hid hat6; clear hown6 hgrow6 hat6 hltg6)
          | fail))
      go_wp2
      go_roundw
      case rel =>
        refine ⟨k + 1, vs ++ [.slice A5 32 c5], by omega, by go_num, ?_, B6.out⟩
        rw [HNX.out]
        exact (R5.out.alloc _).push O6.out W6.out (by simpa using T6.out) (O5.out.alloc _) W5.out
      case measure => simp [intOf]; omega
    · obtain rfl : k = 67 := by omega
      rw [List.take_of_length_le (by have := EL.out; omega)] at hrows
      have HRD := Lib.hid hrows.read
      have HB4 := Lib.hid (B3.out.trans (HB3.out.mono B3.out.size))
      obtain ⟨k3, k4, k5, k6, k7, k8⟩ := keep6q (D3.out.below hbel D3.out.lt)
      clear hrows hbel hlt hk
      go_wp2_with (go_at_call 77; ((with_reducible refine (SUM.out _ Av cv HB4.out HRD.out).mono ?_); rintro e w4 ⟨A4, c4, rfl, q4, b4⟩; have Q4 := Lib.hid q4; have N4 := Lib.hid b4; clear q4 b4))
      go_ret
      exact ⟨A4, c4, rfl, Q4.out, HB4.out.trans (N4.out.mono HB4.out.size)⟩
end Go.Proofs.YtkpfppiedadmbaaGreatDoor.S15

/-
  What the document's own Leaf, Sign and Stands of layer 15 do, of all that they are handed. No statement is proved here.
-/
namespace Go.Proofs.YtkpfppiedadmbaaGreatDoor.S15
set_option linter.unusedSimpArgs false
set_option linter.unusedVariables false
set_option maxRecDepth 1024
open Go.RowKit

theorem cut_32 {sig : List UInt8} (h : sig.length = 2144) (k : Nat) (hk : k < 67) : ((sig.drop (32 * k)).take 32).length = 32 := by
  rw [List.length_take, List.length_drop]
  omega
theorem stand_get (sd : List UInt8) (D : Ad) (ds : List Nat) (sig : List UInt8) (k : Nat) (h : k < 67) : (standRows sd D ds sig)[k]?.getD [] = upL sd D k (ds.getD k 0) (15 - ds.getD k 0) ((sig.drop (32 * k)).take 32) := by simp [standRows, h]
theorem stand_32 (sd : List UInt8) (D : Ad) (ds : List Nat) (sig : List UInt8) (hs : sig.length = 2144) : ∀ r ∈ standRows sd D ds sig, r.length = 32 := by
  intro r hr
  obtain ⟨i, hi, rfl⟩ := List.mem_map.1 hr
  exact up_len _ _ _ _ _ _ (cut_32 hs i (by simpa using hi))
theorem rstands_may (As : Option Addr) (cs : Nat) (sd : List UInt8) (ly tr qq : Nat) (At : Option Addr) (ct : Nat) (text : List UInt8) (Ag : Option Addr) (cg : Nat) (sig : List UInt8) (w : World) (hs : Rd w As 32 cs sd) (ht : Rd w At 32 ct text) (hg : Rd w Ag 2144 cg sig) (h1 : ly < 4294967296) (h2 : tr < 18446744073709551616) (h3 : qq < 4294967296) :
    Calls Tryz.prog 50 #[.slice As 32 cs, .int .u32 (ly : Int), .int .u64 (tr : Int), .int .u32 (qq : Int), .slice At 32 ct, .slice Ag 2144 cg] w (Gives32 w (standL sd (adQ ly tr qq) text sig)) := by
  have DOk : (adQ ly tr qq).Ok := ⟨h1, h2, by show 0 < _; omega, h3, by show 0 < _; omega, by show 0 < _; omega⟩
  have hl := hg.len
  have h15 := fun k => all_le (text := text) k
  exact rstands_core As cs ly tr qq At ct Ag cg sig w (fun k => upL sd (adQ ly tr qq) k ((S7.allL 4 text).getD k 0) (15 - (S7.allL 4 text).getD k 0) ((sig.drop (32 * k)).take 32)) (S7.allL 4 text) (standRows sd (adQ ly tr qq) (S7.allL 4 text) sig) _ hg
    (fun X hX => S7.rall_any At 32 ct text 4 X (ht.below hX) (by unfold S7.wid; omega) (by omega) (by omega))
    (fun X k B cB hX hk hz => rup_any (adQ ly tr qq) DOk k ((S7.allL 4 text).getD k 0) 15 (by omega) (by omega) As cs sd B cB _ X (hs.below hX) hz (h15 k))
    (fun X B cB hX hz => rsum_any15 As cs sd 7 0 (adQ ly tr qq) DOk B 67 cB _ X (hs.below hX) hz (stand_32 _ _ _ _ hl) (by omega) (by omega) (by omega) (by omega))
    (fun k hk => up_len _ _ _ _ _ _ (cut_32 hl k hk)) (all_67 text ht.len) (fun k h => stand_get sd _ _ _ k h) (by simp [standRows])
/-- Nothing is given. -/
def GivesNil (w : World) (e : Ending) (w' : World) : Prop := e = .returned (.slice none 0 0) ∧ Below w.heap.size w w'
set_option maxHeartbeats 4000000 in
theorem rleaf_not (As : Option Addr) (ns cs : Nat) (Al : Option Addr) (nl cl : Nat) (Ae : Option Addr) (ne ce : Nat) (ly tr qq : Nat) (w : World) (hm : mayN ns nl ne = false) :
    Calls Tryz.prog 65 #[.agg (mkA As ns cs Al nl cl Ae ne ce), .int .u32 (ly : Int), .int .u64 (tr : Int), .int .u32 (qq : Int)] w (GivesNil w) := by
  have MY := Lib.hid (show ∀ X, Calls Tryz.prog 64 #[.agg #[.slice As ns cs, .slice Al nl cl, .slice Ae ne ce]] X fun e w' => e = .returned (.bool false) ∧ Below X.heap.size X w' from fun X => by
    have := rmay_any15 As ns cs Al nl cl Ae ne ce X
    rw [hm] at this
    exact this)
  clear hm
  have B0 := Lib.hid (show Below w.heap.size w (w.alloc (.cells (mkA As ns cs Al nl cl Ae ne ce) 26)) from (Below.refl _ _).alloc (Nat.le_refl _) _)
  go_enter Tryz.func65, Tryz.ntmps65
  go_wp2_with (go_at_call 64; ((with_reducible refine (MY.out _).mono ?_); rintro e w1 ⟨rfl, b1⟩; have B1 := Lib.hid (B0.out.trans (b1.mono B0.out.size)); clear b1))
  go_ret
  exact ⟨rfl, B1.out⟩
set_option maxHeartbeats 4000000 in
theorem rsign_not (As : Option Addr) (ns cs : Nat) (Al : Option Addr) (nl cl : Nat) (Ae : Option Addr) (ne ce : Nat) (ly tr qq : Nat) (At : Option Addr) (nt ct : Nat) (w : World) (hm : mayN ns nl ne = false ∨ nt ≠ 32) :
    Calls Tryz.prog 40 #[.agg (mkA As ns cs Al nl cl Ae ne ce), .int .u32 (ly : Int), .int .u64 (tr : Int), .int .u32 (qq : Int), .slice At nt ct] w (GivesNil w) := by
  have B0 := Lib.hid (show Below w.heap.size w (w.alloc (.cells (mkA As ns cs Al nl cl Ae ne ce) 26)) from (Below.refl _ _).alloc (Nat.le_refl _) _)
  have MY := Lib.hid (show ∀ X, Calls Tryz.prog 64 #[.agg #[.slice As ns cs, .slice Al nl cl, .slice Ae ne ce]] X fun e w' => e = .returned (.bool (mayN ns nl ne)) ∧ Below X.heap.size X w' from fun X => rmay_any15 As ns cs Al nl cl Ae ne ce X)
  by_cases h : mayN ns nl ne = true
  · have hn : ((nt : Int) != 32) = true := by
      rcases hm with hm | hm
      · rw [h] at hm; cases hm
      · simp only [bne_iff_ne, ne_eq]; omega
    rw [h] at MY
    clear h hm
    go_enter Tryz.func40, Tryz.ntmps40
    go_wp2_with (go_at_call 64; ((with_reducible refine (MY.out _).mono ?_); rintro e w1 ⟨rfl, b1⟩; have B1 := Lib.hid (B0.out.trans (b1.mono B0.out.size)); clear b1))
    go_ret
    exact ⟨rfl, B1.out⟩
  · have h : mayN ns nl ne = false := by simpa using h
    rw [h] at MY
    clear h hm
    go_enter Tryz.func40, Tryz.ntmps40
    go_wp2_with (go_at_call 64; ((with_reducible refine (MY.out _).mono ?_); rintro e w1 ⟨rfl, b1⟩; have B1 := Lib.hid (B0.out.trans (b1.mono B0.out.size)); clear b1))
    go_ret
    exact ⟨rfl, B1.out⟩
set_option maxHeartbeats 4000000 in
theorem rstands_not (As : Option Addr) (ns cs : Nat) (ly tr qq : Nat) (At : Option Addr) (nt ct : Nat) (Ag : Option Addr) (ng cg : Nat) (w : World) (hm : ns ≠ 32 ∨ nt ≠ 32 ∨ ng ≠ 2144) :
    Calls Tryz.prog 50 #[.slice As ns cs, .int .u32 (ly : Int), .int .u64 (tr : Int), .int .u32 (qq : Int), .slice At nt ct, .slice Ag ng cg] w (GivesNil w) := by
  by_cases h1 : ns = 32
  · subst h1
    by_cases h2 : nt = 32
    · subst h2
      have h3 : ((ng : Int) != 2144) = true := by
        rcases hm with hm | hm | hm
        · exact absurd rfl hm
        · exact absurd rfl hm
        · simp only [bne_iff_ne, ne_eq]; omega
      clear hm
      go_enter Tryz.func50, Tryz.ntmps50
      go_wp2
      go_ret
      exact ⟨rfl, Below.refl _ _⟩
    · have e2 : ((nt : Int) != 32) = true := by simp only [bne_iff_ne, ne_eq]; omega
      clear hm h2
      go_enter Tryz.func50, Tryz.ntmps50
      go_wp2
      go_ret
      exact ⟨rfl, Below.refl _ _⟩
  · have e1 : ((ns : Int) != 32) = true := by simp only [bne_iff_ne, ne_eq]; omega
    clear hm h1
    go_enter Tryz.func50, Tryz.ntmps50
    go_wp2
    go_ret
    exact ⟨rfl, Below.refl _ _⟩
end Go.Proofs.YtkpfppiedadmbaaGreatDoor.S15

/-
  What the calls of package wplus are to do, as one structure, and the document's own beside them. No statement is proved here.
-/
namespace Go.Proofs.YtkpfppiedadmbaaGreatDoor.S15
set_option linter.unusedSimpArgs false
set_option linter.unusedVariables false
set_option maxRecDepth 1024
open Go.RowKit

def leafW (sec salt sd : List UInt8) (ly tr qq : Nat) : List UInt8 := if mayN sec.length salt.length sd.length = true then leafL sec sd (adQ ly tr qq) else []
def signW (sec salt sd : List UInt8) (ly tr qq : Nat) (text : List UInt8) : List UInt8 := if mayN sec.length salt.length sd.length = true ∧ text.length = 32 then signL sec sd (adQ ly tr qq) text else []
def standW (sd : List UInt8) (ly tr qq : Nat) (text sig : List UInt8) : List UInt8 := if sd.length = 32 ∧ text.length = 32 ∧ sig.length = 2144 then standL sd (adQ ly tr qq) text sig else []
theorem leaf_len (sec sd : List UInt8) (D : Ad) : (leafL sec sd D).length = 32 := leafS_len sd D 7 0 _ (by rw [ends_len]; omega) (ends_32 _ _ _)
theorem stand_len (sd : List UInt8) (D : Ad) (text sig : List UInt8) (h : sig.length = 2144) : (standL sd D text sig).length = 32 := leafS_len sd D 7 0 _ (by simp [standRows]) (stand_32 _ _ _ _ h)
theorem mayN_iff {ns nl ne : Nat} : mayN ns nl ne = true ↔ ns = 32 ∧ nl = 32 ∧ ne = 32 := by simp [mayN]
/-- What a call gives: a row that reads so. -/
def GivesR (w : World) (xs : List UInt8) (e : Ending) (w' : World) : Prop := ∃ (A : Option Addr) (c : Nat), e = .returned (.slice A xs.length c) ∧ Rd w' A xs.length c xs ∧ Below w.heap.size w w'
theorem GivesNil.gives {w w' : World} {e : Ending} (h : GivesNil w e w') : GivesR w [] e w' := ⟨none, 0, h.1, Rd.nil_ _, h.2⟩
theorem Gives32.gives {w w' : World} {xs : List UInt8} {e : Ending} (h : Gives32 w xs e w') : GivesR w xs e w' := by
  obtain ⟨A, c, rfl, r, b⟩ := h
  have hl := r.len
  exact ⟨A, c, by rw [hl], by rw [hl]; exact r, b⟩
theorem gives_new {w w' : World} {xs : List UInt8} {e : Ending} (h : New w.heap.size w xs e w') : GivesR w xs e w' := by
  obtain ⟨A, c, rfl, ho, b⟩ := new_of h
  exact ⟨A, c, rfl, Rd.own ho, b⟩
/-- What the calls of package wplus do, in a world that holds what they read. -/
structure WC where
  ok : World → Prop
  bel : ∀ {w w' : World}, ok w → Below w.heap.size w w' → ok w'
  may : ∀ (As : Option Addr) (ns cs : Nat) (sec : List UInt8) (Al : Option Addr) (nl cl : Nat) (salt : List UInt8) (Ae : Option Addr) (ne ce : Nat) (sd : List UInt8) (w : World), ok w → Rd w As ns cs sec → Rd w Al nl cl salt → Rd w Ae ne ce sd →
    Calls Tryz.prog 52 #[.agg #[.slice As ns cs, .slice Al nl cl, .slice Ae ne ce]] w fun e w' => e = .returned (.bool (mayN ns nl ne)) ∧ Below w.heap.size w w'
  leaf : ∀ (As : Option Addr) (ns cs : Nat) (sec : List UInt8) (Al : Option Addr) (nl cl : Nat) (salt : List UInt8) (Ae : Option Addr) (ne ce : Nat) (sd : List UInt8) (ly tr qq : Nat) (w : World), ok w → Rd w As ns cs sec → Rd w Al nl cl salt → Rd w Ae ne ce sd → ly < 4294967296 → tr < 18446744073709551616 → qq < 4294967296 →
    Calls Tryz.prog 54 #[.agg #[.slice As ns cs, .slice Al nl cl, .slice Ae ne ce], .int .u32 (ly : Int), .int .u64 (tr : Int), .int .u32 (qq : Int)] w (New w.heap.size w (leafW sec salt sd ly tr qq))
  sign : ∀ (As : Option Addr) (ns cs : Nat) (sec : List UInt8) (Al : Option Addr) (nl cl : Nat) (salt : List UInt8) (Ae : Option Addr) (ne ce : Nat) (sd : List UInt8) (ly tr qq : Nat) (At : Option Addr) (nt ct : Nat) (text : List UInt8) (w : World), ok w → Rd w As ns cs sec → Rd w Al nl cl salt → Rd w Ae ne ce sd → Rd w At nt ct text → ly < 4294967296 → tr < 18446744073709551616 → qq < 4294967296 →
    Calls Tryz.prog 28 #[.agg #[.slice As ns cs, .slice Al nl cl, .slice Ae ne ce], .int .u32 (ly : Int), .int .u64 (tr : Int), .int .u32 (qq : Int), .slice At nt ct] w (New w.heap.size w (signW sec salt sd ly tr qq text))
  stands : ∀ (Ae : Option Addr) (ne ce : Nat) (sd : List UInt8) (ly tr qq : Nat) (At : Option Addr) (nt ct : Nat) (text : List UInt8) (Ag : Option Addr) (ng cg : Nat) (sig : List UInt8) (w : World), ok w → Rd w Ae ne ce sd → Rd w At nt ct text → Rd w Ag ng cg sig → ly < 4294967296 → tr < 18446744073709551616 → qq < 4294967296 →
    Calls Tryz.prog 46 #[.slice Ae ne ce, .int .u32 (ly : Int), .int .u64 (tr : Int), .int .u32 (qq : Int), .slice At nt ct, .slice Ag ng cg] w (New w.heap.size w (standW sd ly tr qq text sig))
theorem rleaf_any (As : Option Addr) (ns cs : Nat) (sec : List UInt8) (Al : Option Addr) (nl cl : Nat) (salt : List UInt8) (Ae : Option Addr) (ne ce : Nat) (sd : List UInt8) (ly tr qq : Nat) (w : World) (hs : Rd w As ns cs sec) (hl : Rd w Al nl cl salt) (he : Rd w Ae ne ce sd) (h1 : ly < 4294967296) (h2 : tr < 18446744073709551616) (h3 : qq < 4294967296) :
    Calls Tryz.prog 65 #[.agg #[.slice As ns cs, .slice Al nl cl, .slice Ae ne ce], .int .u32 (ly : Int), .int .u64 (tr : Int), .int .u32 (qq : Int)] w (GivesR w (leafW sec salt sd ly tr qq)) := by
  unfold leafW
  rw [hs.len, hl.len, he.len]
  by_cases h : mayN ns nl ne = true
  · obtain ⟨rfl, rfl, rfl⟩ := mayN_iff.1 h
    rw [if_pos h]
    exact (rleaf_may As cs sec Al cl Ae ce sd ly tr qq w hs he h1 h2 h3).mono fun _ _ h => h.gives
  · rw [if_neg h]
    exact (rleaf_not As ns cs Al nl cl Ae ne ce ly tr qq w (by simpa using h)).mono fun _ _ h => h.gives
theorem rsign_any (As : Option Addr) (ns cs : Nat) (sec : List UInt8) (Al : Option Addr) (nl cl : Nat) (salt : List UInt8) (Ae : Option Addr) (ne ce : Nat) (sd : List UInt8) (ly tr qq : Nat) (At : Option Addr) (nt ct : Nat) (text : List UInt8) (w : World) (hs : Rd w As ns cs sec) (hl : Rd w Al nl cl salt) (he : Rd w Ae ne ce sd) (ht : Rd w At nt ct text) (h1 : ly < 4294967296) (h2 : tr < 18446744073709551616) (h3 : qq < 4294967296) :
    Calls Tryz.prog 40 #[.agg #[.slice As ns cs, .slice Al nl cl, .slice Ae ne ce], .int .u32 (ly : Int), .int .u64 (tr : Int), .int .u32 (qq : Int), .slice At nt ct] w (GivesR w (signW sec salt sd ly tr qq text)) := by
  unfold signW
  rw [hs.len, hl.len, he.len, ht.len]
  by_cases h : mayN ns nl ne = true ∧ nt = 32
  · rw [if_pos h]
    obtain ⟨h, rfl⟩ := h
    obtain ⟨rfl, rfl, rfl⟩ := mayN_iff.1 h
    exact (rsign_may As cs sec Al cl Ae ce sd ly tr qq At ct text w hs he ht h1 h2 h3).mono fun _ _ h => gives_new h
  · rw [if_neg h]
    refine (rsign_not As ns cs Al nl cl Ae ne ce ly tr qq At nt ct w ?_).mono fun _ _ h => h.gives
    by_cases h' : mayN ns nl ne = true
    · exact .inr fun e => h ⟨h', e⟩
    · exact .inl (by simpa using h')
theorem rstands_any (Ae : Option Addr) (ne ce : Nat) (sd : List UInt8) (ly tr qq : Nat) (At : Option Addr) (nt ct : Nat) (text : List UInt8) (Ag : Option Addr) (ng cg : Nat) (sig : List UInt8) (w : World) (he : Rd w Ae ne ce sd) (ht : Rd w At nt ct text) (hg : Rd w Ag ng cg sig) (h1 : ly < 4294967296) (h2 : tr < 18446744073709551616) (h3 : qq < 4294967296) :
    Calls Tryz.prog 50 #[.slice Ae ne ce, .int .u32 (ly : Int), .int .u64 (tr : Int), .int .u32 (qq : Int), .slice At nt ct, .slice Ag ng cg] w (GivesR w (standW sd ly tr qq text sig)) := by
  unfold standW
  rw [he.len, ht.len, hg.len]
  by_cases h : ne = 32 ∧ nt = 32 ∧ ng = 2144
  · rw [if_pos h]
    obtain ⟨rfl, rfl, rfl⟩ := h
    exact (rstands_may Ae ce sd ly tr qq At ct text Ag cg sig w he ht hg h1 h2 h3).mono fun _ _ h => h.gives
  · rw [if_neg h]
    exact (rstands_not Ae ne ce ly tr qq At nt ct Ag ng cg w (by omega)).mono fun _ _ h => h.gives
end Go.Proofs.YtkpfppiedadmbaaGreatDoor.S15
