/-
  The call of the statement Sha2Parts of layer 2.
-/
import Derived.Test.YtfgpahenacgmdaaDoorLawG
import Derived.Test.YtfgpahenacgmdaaDoorLawS
import Derived.Deep.RegionHeld3
namespace Go.Proofs.YtfgpahenacgmdaaDoor.S2
set_option linter.unusedSimpArgs false
set_option linter.unusedVariables false
open Go.RowKit

theorem run_min2 {P : Program} (k : IntKind) (a b : Int) (w : World) : (Builtin.min2 (.int k a) (.int k b)).run P w = .ok (.int k (min a b)) w := by
  have e : (if b < a then b else a) = min a b := by split <;> omega
  simp only [Builtin.min2, e]
  rfl
theorem run_min2b {P : Program} (ts : Array TypeId) (t : TypeId) (k : IntKind) (a b r : Int) (h : min a b = r) (w : World) :
    (Builtin.min_ ts t #[.int k a, .int k b]).run P w = .ok (.int k r) w := by
  subst h
  simp [Builtin.min_, List.foldlM, run_min2]
theorem run_cutSlH {A : Option Addr} {n c m : Nat} {h : Int} (hh : h = (m : Nat)) (hk : m ≤ c) (W : World) :
    (Instr.slice 22 (.slice A n c) none (some (.int .i64 h)) none).run Tryd.prog W = .ok (.slice A m c) W := by
  have ee : Tryd.prog.elem 22 = 5 := by kernel_rfl
  have hs : (sizeOf 5).run Tryd.prog W = .ok 1 W := by kernel_rfl
  subst hh
  rw [run_slice_h W 22 A n c (by rw [ee]; exact Tryd.underlying22) .i64 (m : Int) (by omega) (by omega), ee, hs]
  simp only [Result.andThen, sliced, Nat.mul_one, Int.toNat_natCast, Nat.sub_zero]
  have : A.map (·.add 0) = A := by cases A <;> simp [Addr.add]
  rw [this]
  split <;> rfl
theorem run_cutSlHAt {A : Option Addr} {n c m : Nat} {h : Int} (hh : h = (m : Nat)) (hk : m ≤ c) (W : World) :
    (Instr.sliceAt 22 (.slice A n c) none (some (.int .i64 h)) none).run Tryd.prog W = .ok (.slice A m c) W := by
  have ee : Tryd.prog.elem 22 = 5 := by kernel_rfl
  rw [run_sliceAt_slice W 22 _ _ _ _ (by rw [ee]; exact Tryd.underlying22)]
  exact run_cutSlH hh hk W
theorem rd_123 (w : World) : Rd (w.alloc (.cells #[.int .u8 1, .int .u8 2, .int .u8 3] 5)) (some ⟨w.heap.size, 0, none⟩) 3 3 [1, 2, 3] := rd_lit w _ [1, 2, 3] rfl (by simp [maxLen]) _ rfl
theorem own_free {w : World} {B e size n g : Nat} {v : Value} {xs : List Value} (h : w.ownsRow B e size v n xs) (hg : g < B) : v.ownBlock ≠ some g := fun e => by have := (h.lt g e).1; omega
set_option maxHeartbeats 4000000 in
theorem sha2Parts_walk (w : World) (hk : GOk w) (A : Option Addr) (n c : Nat) (xs : List UInt8) (hr : Rd w A n c xs) (D : Option Addr) (l d : Nat) (ys : List UInt8) (hr2 : Rd w D l d ys) (hn : n ≤ 2000) (hl : l ≤ 60) :
    Calls Tryd.prog 5 #[.slice A n c, .slice D l d] w fun e w' => e = .returned (.bool true) ∧ Below w.heap.size w w' := by
  have HK := Lib.hid hk
  have HR := Lib.hid hr
  have HR2 := Lib.hid hr2
  have HXL := Lib.hid hr.len
  have HCN := Lib.hid hr.cap
  have HNE := Lib.hid (fun (g : Nat) (h : w.heap.size ≤ g) => (show g ≠ 0 from Nat.ne_of_gt (Nat.lt_of_lt_of_le hk.lt.1 h)))
  have HRO := Lib.hid (show ∀ W A c m zs, Rd W A m c zs → m ≤ 2000 → Calls Tryd.prog 12 #[.slice A m c] W (New W.heap.size W (sum zs)) from fun W A c m zs h hm => rone_any A m c zs W h (by omega))
  have hni : ¬ 2000 < (n : Int) := by omega
  have hli : ¬ 60 < (l : Int) := by omega
  clear hk hr hr2
  go_enter Tryd.func5, Tryd.ntmps5
  go_wp2_with (first
    | (go_at_call 9; ((with_reducible refine (awake_true _ HK.out).mono ?_); rintro e w1 ⟨rfl, hb1⟩; have B1 := Lib.hid hb1; clear hb1))
    | (go_at_call 17; ((with_reducible refine (new_any w1 (HK.out.below (Nat.le_refl _) B1.out)).mono ?_); rintro e w2 ⟨rfl, h2, b2⟩; have H2 := Lib.hid h2; have B2 := Lib.hid (B1.out.trans (b2.mono B1.out.size)); clear h2 b2))
    | (go_at_call 17; ((with_reducible refine (new_any w2 (HK.out.below (Nat.le_refl _) B2.out)).mono ?_); rintro e w3 ⟨rfl, h3, b3⟩; have H3 := Lib.hid h3; have G3 := Lib.hid (H2.out.below b3 H2.out.lt); have B3 := Lib.hid (B2.out.trans (b3.mono B2.out.size)); clear h3 b3)))
  obtain ⟨g, hg⟩ : ∃ g, g = w1.heap.size := ⟨_, rfl⟩
  obtain ⟨g2, hg2⟩ : ∃ g2, g2 = w2.heap.size := ⟨_, rfl⟩
  have hgg : g < g2 := by rw [hg, hg2]; exact H2.out.lt
  have hwg : w.heap.size ≤ g := by rw [hg]; exact B1.out.size
  rw [← hg] at G3 ⊢
  rw [← hg2] at H3 ⊢
  clear hg hg2 H2
  go_loopw [7, 8, 9, 10, 11] (fun at_ i _ _ _ wr => ∃ (a k : Nat) (zs : List UInt8), a ≤ n ∧ k ≤ l ∧ at_ = .int .i64 (a : Int) ∧ i = .int .i64 (k : Int) ∧ Hid (zs.length = 3 * k) ∧ Hid (HashIs wr g (xs.take a)) ∧ Hid (HashIs wr g2 zs) ∧ Hid (Below w.heap.size w wr))
    (fun _ i _ _ _ _ => l - (intOf i).toNat)
  case atStart => exact ⟨0, 0, [], by omega, by omega, rfl, rfl, rfl, by show HashIs _ _ _; simpa using G3.out, H3.out, B3.out⟩
  case round =>
    obtain ⟨a, k, zs, ha, hkl, rfl, rfl, ZL, Q1, Q2, BB⟩ := hrel
    by_cases hlt : k < l
    · obtain ⟨b, off, hDe, hb, hcell⟩ := (HR2.out.below BB.out).at_ (by omega)
      obtain ⟨sz, hsz⟩ : ∃ sz, sz = ys.getD k 0 := ⟨_, rfl⟩
      have hc := hcell k hlt
      rw [← hsz] at hc
      have s256 := sz.toNat_lt
      obtain ⟨m, hm⟩ : ∃ m, m = min sz.toNat (n - a) := ⟨_, rfl⟩
      have hma : a + m ≤ n := by omega
      have HCA := HCN.out
      have rt := ((HR.out.below BB.out).cut (k := a) ha).take (k := m) (by omega)
      have hcs := fun W => run_cutSlLH (A := A) (n := n) (c := c) (l' := a) (m := m) (l := (a : Int)) (h := (a : Int) + (m : Int)) rfl rfl (by omega) W
      have hcs' := fun W => run_cutSlLHAt (A := A) (n := n) (c := c) (l' := a) (m := m) (l := (a : Int)) (h := (a : Int) + (m : Int)) rfl rfl (by omega) W
      obtain ⟨A2, hA2⟩ : ∃ A2, A2 = (if c = a then A else A.map (·.add a)) := ⟨_, rfl⟩
      rw [← hA2] at rt hcs hcs'
      obtain ⟨pt, hpt⟩ : ∃ pt, pt = (xs.drop a).take m := ⟨_, rfl⟩
      rw [← hpt] at rt
      have RT := Lib.hid rt
      have E1 := Lib.hid (show xs.take a ++ pt = xs.take (a + m) by rw [hpt, List.take_add])
      have AL := Lib.hid (show (xs.take a).length + m ≤ 4294967296 by rw [List.length_take]; omega)
      have ZM := Lib.hid (show zs.length + 3 ≤ 4294967296 by have := ZL.out; omega)
      have ZL' := Lib.hid (show (zs ++ [1, 2, 3]).length = 3 * (k + 1) by have := ZL.out; simp; omega)
      have hm9 : m ≤ 2000 := by omega
      have hwz : IntKind.i64.wrap (sz.toNat : Int) = (sz.toNat : Int) := by rw [IntKind.wrap_i64]; omega
      have hwn : IntKind.i64.wrap ((n : Int) - (a : Int)) = (n : Int) - (a : Int) := by rw [IntKind.wrap_i64]; omega
      have hwa : IntKind.i64.wrap ((a : Int) + (m : Int)) = (a : Int) + (m : Int) := by rw [IntKind.wrap_i64]; omega
      have hmn := fun W => run_min2b (P := Tryd.prog) #[3, 3] 3 .i64 (sz.toNat : Int) ((n : Int) - (a : Int)) (m : Int) (by omega) W
      have HG2 := Lib.hid (show g2 < wr.heap.size from Q2.out.lt)
      have HG1 := Lib.hid (show g < wr.heap.size from Q1.out.lt)
      have BS := BB.out.size
      subst hDe
      have hki : (k : Int) < (l : Int) := by omega
      obtain ⟨wo, rfl⟩ : ∃ wo : World, wo = wr := ⟨_, rfl⟩
      clear hcell hsz hm hA2 hpt rt
      go_wp2_with (first
        | (at_builtin; refine append_rd rfl (.tmp 40) (.tmp 46) rfl wo.heap.size (.slice (some ⟨wo.heap.size, 0, none⟩) 0 0) 0 [] rfl (own_lit_u8 wo wo.heap.size [] (Nat.le_refl _) (by simp [maxLen])) A2 m (c - a) pt rfl (RT.out.alloc _) (by clear hwz hwn hwa; omega) (by simp) ?_; intro v4 w4 o4 g4; have O4 := Lib.hid (own_n o4); have B4 := Lib.hid (((Below.refl wo.heap.size wo).alloc (Nat.le_refl _) _).grown g4 (by simp) (fun k hk => by simp [Value.ownBlock] at hk; exact Nat.le_of_eq hk)); have P4 := Lib.hid (BB.out.trans (B4.out.mono BS)); clear o4 g4; obtain ⟨A4, c4, rfl⟩ := own_form O4.out)
        | (go_at_call 18; ((with_reducible refine (write_any g A4 m c4 (xs.take a) pt w4 (Q1.out.below B4.out HG1.out) (Rd.own O4.out) (fun _ => own_sep O4.out HG1.out) (HK.out.below (Nat.le_refl _) P4.out).k (HNE.out _ hwg) AL.out).mono ?_); rintro e w5 ⟨rfl, h5, g5⟩; have Q5 := Lib.hid (show HashIs w5 g (xs.take (a + m)) by rw [← E1.out]; exact h5); have O5 := Lib.hid (own_only O4.out g5 (own_free O4.out HG1.out)); have T5 := Lib.hid (HashIs.only (Q2.out.below B4.out HG2.out) g5 (Nat.ne_of_gt hgg)); have P5 := Lib.hid (below_only P4.out g5 hwg P4.out.size); have S5 := Lib.hid (show wo.heap.size ≤ w5.heap.size from Nat.le_trans B4.out.size g5.size); clear h5 g5))
        | (go_at_call 18; ((with_reducible refine (write_any g2 (some ⟨w5.heap.size, 0, none⟩) 3 3 zs [1, 2, 3] _ (T5.out.below ((Below.refl _ _).alloc (Nat.le_refl _) _) T5.out.lt) (rd_123 w5) (sep_at (Nat.ne_of_gt T5.out.lt) 3) (HK.out.below (Nat.le_refl _) (P5.out.alloc P5.out.size _)).k (HNE.out _ (Nat.le_trans hwg (Nat.le_of_lt hgg))) ZM.out).mono ?_); rintro e w6 ⟨rfl, h6, g6⟩; have Q6 := Lib.hid (HashIs.only (Q5.out.below ((Below.refl _ _).alloc (Nat.le_refl _) (.cells #[.int .u8 1, .int .u8 2, .int .u8 3] 5)) Q5.out.lt) g6 (Nat.ne_of_lt hgg)); have T6 := Lib.hid h6; have O6 := Lib.hid (own_only (O5.out.alloc (.cells #[.int .u8 1, .int .u8 2, .int .u8 3] 5)) g6 (own_free O5.out HG2.out)); have P6 := Lib.hid (below_only (P5.out.alloc P5.out.size _) g6 (Nat.le_trans hwg (Nat.le_of_lt hgg)) (by have := P5.out.size; simp; omega)); clear h6 g6)))
      have R6 := Lib.hid (HR.out.below P6.out)
      clear hcs hcs' hmn hwz hwn hc
      go_loopw [11] (fun i wr => ∃ (j : Nat) (zz : List UInt8), j ≤ m ∧ i = .int .i64 (j : Int) ∧ wr.ownsRow wo.heap.size 5 1 (.slice A4 m c4) m (bv zz) ∧ Below wo.heap.size w6 wr) (fun i _ => m - (intOf i).toNat)
      case atStart => exact ⟨0, pt, by clear hwa; omega, rfl, O6.out, Below.refl _ _⟩
      case round =>
        obtain ⟨j, zz, hj, rfl, ho, hB⟩ := hrel
        by_cases hlt2 : j < m
        · obtain ⟨b4, cap4, hv4, hb4, hlt4⟩ := ho.form (by clear hwa; omega)
          injection hv4 with hA4 _ hc4
          subst hA4
          have zl := own_len ho
          have hcc := ho.cellAt j (by clear hwa; omega)
          have hf := ho.frozenAt j
          have hs := ho.stored j
          have zj : j < zz.length := by rw [zl]; exact hlt2
          rw [bv_at _ _ zj] at hcc
          have hinc := u8_inc (zz[j]'zj)
          obtain ⟨z, hz⟩ : ∃ z, z = zz[j]'zj := ⟨_, rfl⟩
          rw [← hz] at hcc hinc
          have i2 : (j : Int) < (m : Int) := by clear hwa hinc; omega
          clear hz zl hc4
          go_wp2
          clear hinc hwa
          go_roundw
          case rel => exact ⟨j + 1, zz.set j (z + 1), by omega, by go_num, by rw [← bv_set]; exact (hs _).1, hB.setCell (by simpa using hb4) _⟩
          case measure => simp [intOf]; omega
        · have Q7 := Lib.hid (Q6.out.below hB HG1.out)
          have T7 := Lib.hid (T6.out.below hB HG2.out)
          have P7 := Lib.hid (P6.out.trans (hB.mono BS))
          have hj2 : ¬ (j : Int) < (m : Int) := by clear hwa; omega
          clear ho hB hj
          by_cases hk5 : k < 5
          · have ht5 : decide ((k : Int) < 5) = true := by clear hwa; simpa using (show (k : Int) < 5 by omega)
            have hki5 : (k : Int) < 5 := by clear hwa; omega
            have hsl := fun W => run_cutSlH (A := A) (n := n) (c := c) (m := a + m) (h := (a : Int) + (m : Int)) (by simp) (Nat.le_trans hma HCN.out) W
            have hsl' := fun W => run_cutSlHAt (A := A) (n := n) (c := c) (m := a + m) (h := (a : Int) + (m : Int)) (by simp) (Nat.le_trans hma HCN.out) W
            go_wp2
            have Qd := Lib.hid (Q7.out.below (Below.refl _ wr).drew Q7.out.lt)
            have Td := Lib.hid (T7.out.below (Below.refl _ wr).drew T7.out.lt)
            have Pd := Lib.hid P7.out.drew
            have M5 := Lib.hid (show (xs.take (a + m)).length ≤ 2147483648 by rw [List.length_take]; omega)
            have MA := Lib.hid hma
            have MN := Lib.hid (show a + m ≤ 2000 by omega)
            clear Q7 T7 P7 hwa
            go_region_held3 (fun _ => True) (trivial) (first
              | (go_at_call 19; ((with_reducible refine (sum_any g (xs.take (a + m)) _ Qd.out (HK.out.below (Nat.le_refl _) Pd.out) M5.out).mono ?_); intro e u1 h1; obtain ⟨A7, c7, rfl, r7, b7⟩ := new_len h1; have R7 := Lib.hid r7; have Q8 := Lib.hid (Qd.out.below b7 Qd.out.lt); have T8 := Lib.hid (Td.out.below b7 Td.out.lt); have P8 := Lib.hid (Pd.out.trans (b7.mono Pd.out.size)); clear h1 r7 b7))
              | (go_at_call 12; ((with_reducible refine (HRO.out _ A c (a + m) (xs.take (a + m)) ((HR.out.below P8.out).take (k := a + m) MA.out) MN.out).mono ?_); intro e u2 h2; obtain ⟨A9, c9, rfl, r9, b9⟩ := new_len h2; have R9 := Lib.hid r9; have Y9 := Lib.hid (R7.out.below b9); have Q9 := Lib.hid (Q8.out.below b9 Q8.out.lt); have T9 := Lib.hid (T8.out.below b9 T8.out.lt); have P9 := Lib.hid (P8.out.trans (b9.mono P8.out.size)); clear h2 r9 b9))
              | (go_at_call 10; ((with_reducible refine (rsame_true A7 A9 _ c7 _ c9 _ _ _ Y9.out R9.out rfl).mono ?_); rintro e u3 ⟨rfl, b3⟩; have Q10 := Lib.hid (Q9.out.below b3 Q9.out.lt); have T10 := Lib.hid (T9.out.below b3 T9.out.lt); have P10 := Lib.hid (P9.out.trans (b3.mono P9.out.size)); clear b3)))
            go_wp2
            go_roundw
            case rel => exact ⟨a + m, k + 1, zs ++ [1, 2, 3], MA.out, by omega, by go_num, by go_num, ZL', Q10, T10, P10⟩
            case measure => simp [intOf]; omega
          · have ht5 : decide ((k : Int) < 5) = false := by clear hwa; simpa using (show (5 : Int) ≤ k by omega)
            have hki5 : ¬ (k : Int) < 5 := by clear hwa; omega
            have MA := Lib.hid hma
            have Qd := Lib.hid (Q7.out.below (Below.refl _ wr).drew Q7.out.lt)
            have Td := Lib.hid (T7.out.below (Below.refl _ wr).drew T7.out.lt)
            clear hwa
            go_wp2
            go_quiet (fail)
            go_wp2
            go_roundw
            case rel => exact ⟨a + m, k + 1, zs ++ [1, 2, 3], MA.out, by omega, by go_num, by go_num, ZL', Qd, Td, Lib.hid (below_drewN P7.out _)⟩
            case measure => simp [intOf]; omega
    · obtain rfl : k = l := by omega
      have hki : ¬ (k : Int) < (k : Int) := by omega
      have HCA := HCN.out
      have R0 := Lib.hid (HR.out.cut (k := a) ha)
      have hcs := fun W => run_cutSl (A := A) (n := n) (c := c) (k := a) (l := (a : Int)) rfl ha W
      have hcs' := fun W => run_cutSlAt (A := A) (n := n) (c := c) (k := a) (l := (a : Int)) rfl ha W
      obtain ⟨A2, hA2⟩ : ∃ A2, A2 = (if c = a then A else A.map (·.add a)) := ⟨_, rfl⟩
      rw [← hA2] at R0 hcs hcs'
      have RT := Lib.hid (R0.out.below BB.out)
      have SP := Lib.hid (sep_new R0.out hwg)
      have AL := Lib.hid (show (xs.take a).length + (n - a) ≤ 4294967296 by rw [List.length_take]; omega)
      have E1 := Lib.hid (show xs.take a ++ xs.drop a = xs from List.take_append_drop a xs)
      have HM := Lib.hid (show xs.length ≤ 2147483648 by rw [HXL.out]; omega)
      have HN := Lib.hid (show n ≤ 2000 from hn)
      have HN2 := Lib.hid (show n ≤ 2147483648 by omega)
      clear hA2
      go_wp2_with (first
        | (go_at_call 18; ((with_reducible refine (write_any g A2 (n - a) (c - a) (xs.take a) (xs.drop a) wr Q1.out RT.out SP.out (HK.out.below (Nat.le_refl _) BB.out).k (HNE.out _ hwg) AL.out).mono ?_); rintro e w5 ⟨rfl, h5, g5⟩; have Q5 := Lib.hid (show HashIs w5 g xs by rw [← E1.out]; exact h5); have P5 := Lib.hid (below_only BB.out g5 hwg BB.out.size); clear h5 g5))
        | (go_at_call 19; ((with_reducible refine (sum_any g xs w5 Q5.out (HK.out.below (Nat.le_refl _) P5.out) HM.out).mono ?_); intro e u1 h1; obtain ⟨A7, c7, rfl, r7, b7⟩ := new_len h1; have R7 := Lib.hid r7; have Q8 := Lib.hid (Q5.out.below b7 Q5.out.lt); have P8 := Lib.hid (P5.out.trans (b7.mono P5.out.size)); clear h1 r7 b7))
        | (go_at_call 12; ((with_reducible refine (HRO.out u1 A c n xs (HR.out.below P8.out) HN.out).mono ?_); intro e u2 h2; obtain ⟨A9, c9, rfl, r9, b9⟩ := new_len h2; have R9 := Lib.hid r9; have Y9 := Lib.hid (R7.out.below b9); have Q9 := Lib.hid (Q8.out.below b9 Q8.out.lt); have P9 := Lib.hid (P8.out.trans (b9.mono P8.out.size)); clear h2 r9 b9))
        | (go_at_call 10; ((with_reducible refine (rsame_true A7 A9 _ c7 _ c9 _ _ u2 Y9.out R9.out rfl).mono ?_); rintro e u3 ⟨rfl, b3⟩; have Q10 := Lib.hid (Q9.out.below b3 Q9.out.lt); have P10 := Lib.hid (P9.out.trans (b3.mono P9.out.size)); clear b3))
        | (go_at_call 19; ((with_reducible refine (sum_any g xs u3 Q10.out (HK.out.below (Nat.le_refl _) P10.out) HM.out).mono ?_); intro e u4 h4; obtain ⟨A11, c11, rfl, r11, b11⟩ := new_len h4; have R11 := Lib.hid r11; have P11 := Lib.hid (P10.out.trans (b11.mono P10.out.size)); clear h4 r11 b11))
        | (go_at_call 11; ((with_reducible refine (one_any A n c xs u4 (HR.out.below P11.out) (HK.out.below (Nat.le_refl _) P11.out) HN2.out).mono ?_); intro e u5 h5; obtain ⟨A12, c12, rfl, r12, b12⟩ := new_len h5; have R12 := Lib.hid r12; have Y12 := Lib.hid (R11.out.below b12); have P12 := Lib.hid (P11.out.trans (b12.mono P11.out.size)); clear h5 r12 b12))
        | (go_at_call 10; ((with_reducible refine (rsame_true A11 A12 _ c11 _ c12 _ _ u5 Y12.out R12.out rfl).mono ?_); rintro e u6 ⟨rfl, b6⟩; have P13 := Lib.hid (P12.out.trans (b6.mono P12.out.size)); clear b6)))
      go_ret
      exact ⟨rfl, P13.out⟩
theorem sha2Parts_frame (w : World) (hk : GOk w) (A : Option Addr) (n c : Nat) (xs : List UInt8) (hr : Rd w A n c xs) (D : Option Addr) (l d : Nat) (ys : List UInt8) (hr2 : Rd w D l d ys) :
    Calls Tryd.prog 5 #[.slice A n c, .slice D l d] w fun e w' => e = .returned (.bool true) ∧ Below w.heap.size w w' := by
  by_cases hn : n ≤ 2000
  · by_cases hl : l ≤ 60
    · exact sha2Parts_walk w hk A n c xs hr D l d ys hr2 hn hl
    · have HK := Lib.hid hk
      have lm := hr.max
      have lm2 := hr2.max
      have hni : ¬ 2000 < (n : Int) := by omega
      have hli : 60 < (l : Int) := by omega
      clear hk hr hr2
      go_enter Tryd.func5, Tryd.ntmps5
      go_wp2_with (go_at_call 9; ((with_reducible refine (awake_true _ HK.out).mono ?_); rintro e w1 ⟨rfl, hb1⟩; have B1 := Lib.hid hb1; clear hb1))
      go_ret
      exact ⟨rfl, B1.out⟩
  · have HK := Lib.hid hk
    have lm := hr.max
    have lm2 := hr2.max
    have hni : 2000 < (n : Int) := by omega
    clear hk hr hr2
    go_enter Tryd.func5, Tryd.ntmps5
    go_wp2_with (go_at_call 9; ((with_reducible refine (awake_true _ HK.out).mono ?_); rintro e w1 ⟨rfl, hb1⟩; have B1 := Lib.hid hb1; clear hb1))
    go_ret
    exact ⟨rfl, B1.out⟩
end Go.Proofs.YtfgpahenacgmdaaDoor.S2
