/-
  What the landed digits' All does. No statement is proved here.
-/
import Derived.Test.YtbkafkpnohbccaaDoorDigK5
import Derived.Test.YtbkafkpnohbccaaDoorOctP
namespace Go.Proofs.YtbkafkpnohbccaaDoor.S7
set_option linter.unusedSimpArgs false
set_option linter.unusedVariables false
open Go.RowKit

theorem all_none (A : Option Addr) (n c : Nat) (w : Int) (W : World) (hok : WOk W) (h : okS n w = false) (hm : n ≤ maxLen) :
    Calls Tryd.prog 19 #[.slice A n c, .int .i64 w] W fun e w' => e = .returned (.slice none 0 0) ∧ W = w' := by
  have HS := Lib.hid (shape_none n w W hok h)
  unfold maxLen at hm
  clear h hok
  go_enter Tryd.func19, Tryd.ntmps19
  go_wp2_with (go_at_call 18; ((with_reducible refine HS.out.mono ?_); rintro e w2 ⟨rfl, rfl⟩))
  go_ret
  exact ⟨rfl, rfl⟩
theorem own_belowD {w w' : World} {B e size n : Nat} {v : Value} {xs : List Value} (h : w.ownsRow B e size v n xs) (hb : Below w.heap.size w w') : w'.ownsRow B e size v n xs := by
  refine ⟨h.1, ?_⟩
  rcases h.2 with h | ⟨g, cap, cur, h1, h2, h3, h4⟩
  · exact .inl h
  · exact .inr ⟨g, cap, cur, h1, h2, (hb.block g (Array.getElem?_eq_some_iff.1 h3).1).trans h3, h4⟩
theorem of_wid (v : Nat) (hv : wid v) (xs : List UInt8) : ofW (v : Int) xs = ofL v xs := by rw [ofW, may_wid hv, if_pos rfl, Int.toNat_natCast]
set_option maxHeartbeats 2000000 in
theorem all_any (A : Option Addr) (n c : Nat) (xs : List UInt8) (v : Nat) (W : World) (hok : WOk W) (hr : Rd W A n c xs) (hv : wid v) (h0 : 1 ≤ n) (h1 : n ≤ 64) :
    Calls Tryd.prog 19 #[.slice A n c, .int .i64 (v : Int)] W (NewI W.heap.size W (allL v xs)) := by
  have hl := hr.len
  obtain ⟨k1, k2, k3⟩ := lack_val v hv xs (by omega) (by omega)
  have hS := shape_any n v W hok h0 h1 hv
  have hLK := lack_any A n c xs v W hok hr (by omega)
  have hOF := fun X (o : WOk X) h => of_new A n c xs v X o h (by omega)
  rw [of_wid v hv, Int.toNat_natCast] at hLK
  rw [of_wid v hv] at hOF
  obtain ⟨_, _, f3, f4, _⟩ := shape_facts n v hv h0 h1
  have hw8 := wid_div hv
  obtain ⟨U, hU⟩ : ∃ U, U = shU n v := ⟨_, rfl⟩
  obtain ⟨V, hV⟩ : ∃ V, V = shV n v := ⟨_, rfl⟩
  obtain ⟨L, hL⟩ : ∃ L, L = shL n v := ⟨_, rfl⟩
  obtain ⟨X0, hX0⟩ : ∃ X0, X0 = lk v (ofL v xs) := ⟨_, rfl⟩
  have hU1 : 1 ≤ U := by
    rw [hU, f4]
    have : 1 ≤ 8 / v := by rcases hv with h | h | h | h <;> subst h <;> decide
    exact Nat.le_trans this (Nat.le_mul_of_pos_left _ h0)
  obtain ⟨N, hN⟩ : ∃ N, N = X0 * 2 ^ L := ⟨_, rfl⟩
  have hN6 : N < 65536 := by rw [hN, hX0, hL, ← hl]; exact k1
  have hX6 : X0 ≤ N := by rw [hN]; exact Nat.le_mul_of_pos_right _ (Nat.two_pow_pos _)
  have HAL := Lib.hid (show allL v xs = ofL v xs ++ (ofL v [UInt8.ofNat (N / 256), UInt8.ofNat N]).take V by rw [allL, hN, hX0, hV, hL, hl])
  have hO2 := fun X (o : WOk X) B d (h : Rd X B 2 d [UInt8.ofNat (N / 256), UInt8.ofNat N]) => of_new B 2 d _ v X o h (by omega)
  rw [of_wid v hv] at hO2
  have HO2 := Lib.hid hO2
  have HL2 := Lib.hid (show V ≤ (ofL v [UInt8.ofNat (N / 256), UInt8.ofNat N]).length by
    rw [ofL_length, hV, ← hl]
    refine Nat.le_trans k3 ?_
    show 16 / v ≤ 2 * (8 / v)
    rcases hv with h | h | h | h <;> subst h <;> decide)
  have hOL : (ofL v xs).length ≤ 1000 := by
    rw [ofL_length, hl]
    have : n * (8 / v) ≤ n * 8 := Nat.mul_le_mul_left _ (Nat.div_le_self _ _)
    omega
  have hV20 : V ≤ 16 := by
    have h9 := k3
    rw [hl, ← hV] at h9
    have : 16 / v ≤ 16 := Nat.div_le_self _ _
    omega
  rw [← hU, ← hV, ← hL] at hS
  have HSS := Lib.hid hS
  have HR := Lib.hid hr
  rw [← hX0] at hLK
  have HLK := Lib.hid hLK
  have HOF := Lib.hid hOF
  obtain ⟨ds, hds⟩ : ∃ ds, ds = ofL v xs := ⟨_, rfl⟩
  obtain ⟨es, hes⟩ : ∃ es, es = ofL v [UInt8.ofNat (N / 256), UInt8.ofNat N] := ⟨_, rfl⟩
  rw [← hes] at HO2 HL2
  rw [← hds] at HOF hOL
  rw [← hds, ← hes] at HAL
  rw [HAL.out]
  have hLb : L ≤ 16 := by rw [hL]; unfold shL; omega
  have n1 : (X0 : Int) * 2 ^ L = (N : Int) := by rw [hN]; simp
  have n2 : IntKind.u64.wrap (N : Int) = (N : Int) := by rw [IntKind.wrap_u64]; omega
  have n3 : IntKind.u64.wrap (X0 : Int) = (X0 : Int) := by rw [IntKind.wrap_u64]; omega
  have ep : putL N 2 = [UInt8.ofNat (N / 256), UInt8.ofNat N] := by simp [putL]
  have HPT := Lib.hid (show ∀ X : World, Calls Tryd.prog 30 #[.int .u64 (N : Int), .int .i64 2] X (New X.heap.size X [UInt8.ofNat (N / 256), UInt8.ofNat N]) from fun X => by rw [← ep]; exact put_any N 2 X (by omega) (by omega))
  have HOK := Lib.hid hok
  clear hS hU hV hL hX0 k1 k2 k3 hr hds hes f3 f4 hw8 hl hO2 hLK hOF hN ep hok hv
  have uz : ¬ (U : Int) = 0 := by omega
  go_enter Tryd.func19, Tryd.ntmps19
  go_wp2_with (first
    | (go_at_call 18; ((with_reducible refine HSS.out.mono ?_); rintro e w2 ⟨rfl, rfl⟩))
    | (go_at_call 31; ((with_reducible refine HLK.out.mono ?_); rintro e w1 ⟨rfl, b1⟩; have B1 := Lib.hid b1; clear b1))
    | (go_at_call 30; ((with_reducible refine (HPT.out _).mono ?_); rintro e w3 ⟨A3, n3, c3, rfl, o3, b3⟩; obtain rfl : n3 = 2 := (own_len o3).symm; have B3 := Lib.hid (B1.out.trans (b3.mono B1.out.size)); have R3 := Lib.hid (Rd.own o3); clear o3 b3))
    | (go_at_call 32; ((with_reducible refine (HOF.out _ (HOK.out.below B3.out) (HR.out.below B3.out)).mono ?_); intro e w4 h4; obtain ⟨A4, c4, rfl, r4, o4, b4⟩ := newi_len h4; have O4 := Lib.hid o4; have B4 := Lib.hid b4; have BB4 := Lib.hid (B3.out.trans (b4.mono B3.out.size)); clear h4 r4 o4 b4))
    | (go_at_call 32; ((with_reducible refine (HO2.out _ (HOK.out.below BB4.out) A3 c3 (R3.out.below B4.out)).mono ?_); intro e w5 h5; obtain ⟨A5, c5, rfl, r5, _, b5⟩ := newi_len h5; have R5 := Lib.hid r5; have B5 := Lib.hid b5; have O5 := Lib.hid (own_belowD O4.out b5); have hVc : V ≤ c5 := Nat.le_trans HL2.out r5.cap; have hcs := fun X => run_cutIH (A := A5) (n := es.length) (c := c5) (m := V) (h := (V : Int)) rfl hVc X; have hcs' := fun X => run_cutIHAt (A := A5) (n := es.length) (c := c5) (m := V) (h := (V : Int)) rfl hVc X; clear h5 r5 b5))
    | (at_builtin; refine append_ri (by rfl) (.tmp 28) (.tmp 33) (by rfl) w3.heap.size _ ds.length ds (by rfl) O5.out A5 V c5 (es.take V) (by rfl) (R5.out.take HL2.out) (by omega) ?hbase ?happ))
  case hbase => exact Nat.le_trans B4.out.size B5.out.size
  case happ =>
    intro v6 w6 o6 g6
    have O6 := Lib.hid o6
    have B6 := Lib.hid (show Below w3.heap.size w3 w6 from (B4.out.trans (B5.out.mono B4.out.size)).grown g6 (Nat.le_trans B4.out.size B5.out.size) (fun g hg => (O5.out.lt g hg).1))
    clear o6 g6
    go_wp2
    go_ret
    exact NewI.mk (own_basei O6.out B3.out.size) (B3.out.trans (B6.out.mono B3.out.size))
theorem allW_any (A : Option Addr) (n c : Nat) (xs : List UInt8) (w : Int) (W : World) (hok : WOk W) (hr : Rd W A n c xs) :
    Calls Tryd.prog 19 #[.slice A n c, .int .i64 w] W (GivesI W.heap.size W (allW w xs)) := by
  have hl := hr.len
  by_cases hc : okS (n : Int) w = true
  · obtain ⟨m, v, hm, rfl, h0, h1, hv⟩ := okS_of hc
    rw [allW, hl, hc, if_pos rfl, Int.toNat_natCast]
    exact (all_any A n c xs v W hok hr hv (by omega) (by omega)).mono fun e w' h => .of_new h
  · replace hc : okS (n : Int) w = false := by simpa using hc
    rw [allW, hl, hc, if_neg (by simp)]
    exact (all_none A n c w W hok hc (Nat.le_trans hr.cap hr.max)).mono fun e w' ⟨h1, h2⟩ => ⟨none, 0, h1, Ri.nil_ _, by rw [← h2]; exact Below.refl _ _⟩
end Go.Proofs.YtbkafkpnohbccaaDoor.S7
