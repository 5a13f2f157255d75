/-
  The call of the statement Sha2Again of layer 2.
-/
import Derived.Test.YtfgpahenacgmdaaDoorAwake2
import Derived.Deep.AppendLies
namespace Go.Proofs.YtfgpahenacgmdaaDoor.S2
set_option linter.unusedSimpArgs false
set_option linter.unusedVariables false
open Go.RowKit

theorem hash_write_nil (g : Nat) (xs : List UInt8) (w : World) (hh : HashIs w g xs) (hk : KOk w) (hg : g ≠ 0) (hm : xs.length ≤ 4294967296) :
    Calls Tryd.prog 18 #[.pointer (some ⟨g, 0, none⟩), .slice none 0 0] w fun e w' => e = .returned (.tuple #[]) ∧ HashIs w' g xs ∧ w.grownBy w' (some g) := by
  refine (write_any g none 0 0 xs [] w hh (Rd.nil_ w) (fun h => absurd h (by omega)) hk hg (by simpa using hm)).mono fun e w' h => ?_
  rw [List.append_nil] at h
  exact h
theorem own_only {w w' : World} {B e size n g : Nat} {v : Value} {xs : List Value} (h : w.ownsRow B e size v n xs) (hb : w.grownBy w' (some g)) (hg : v.ownBlock ≠ some g) : w'.ownsRow B e size v n xs := by
  refine ⟨h.1, ?_⟩
  rcases h.2 with h | ⟨b, cap, cur, h1, h2, h3, h4⟩
  · exact .inl h
  · refine .inr ⟨b, cap, cur, h1, h2, (hb.block b (Array.getElem?_eq_some_iff.1 h3).1 ?_).trans h3, h4⟩
    rw [h1] at hg
    simpa [Value.ownBlock] using hg
theorem own_keep {w w' : World} {B e size n b c : Nat} {row : Option Nat} {xs : List Value} (h : w.ownsRow B e size (.slice (some ⟨b, 0, none⟩) n c) n xs) (hg : w.grownBy w' row) (hb : row ≠ some b) : w'.ownsRow B e size (.slice (some ⟨b, 0, none⟩) n c) n xs := by
  refine ⟨h.1, ?_⟩
  rcases h.2 with h | ⟨g, cap, cur, h1, h2, h3, h4⟩
  · exact .inl h
  · have hgb : g = b := by injection h1 with e _ _; injection e with e; injection e with e; exact e.symm
    subst hgb
    exact .inr ⟨g, cap, cur, h1, h2, (hg.block g (Array.getElem?_eq_some_iff.1 h3).1 (fun e => hb e.symm)).trans h3, h4⟩
theorem u8_inc (x : UInt8) : IntKind.u8.wrap ((x.toNat : Int) + 1) = ((x + 1).toNat : Int) := by
  rw [IntKind.wrap_u8', UInt8.toNat_add]
  have : (1 : UInt8).toNat = 1 := rfl
  omega
theorem own_sep {w : World} {B e size n g : Nat} {A : Option Addr} {c : Nat} {xs : List Value} (h : w.ownsRow B e size (.slice A n c) n xs) (hg : g < B) : Sep A g := by
  intro ad ea
  subst ea
  rcases h.2 with ⟨h, _⟩ | ⟨b, cap, cur, h1, h2, _⟩
  · cases h
  · injection h1 with e _ _
    injection e with e
    subst e
    show b ≠ g
    omega
set_option maxHeartbeats 2000000 in
theorem sha2Again_walk (w : World) (hk : GOk w) (A : Option Addr) (n c : Nat) (xs : List UInt8) (hr : Rd w A n c xs) :
    Calls Tryd.prog 7 #[.slice A n c] w fun e w' => e = .returned (.bool true) ∧ Below w.heap.size w w' := by
  have HK := Lib.hid hk
  have HR := Lib.hid hr
  have lm : n ≤ maxLen := Nat.le_trans hr.cap hr.max
  unfold maxLen at lm
  have HL := Lib.hid hr.len
  have HNE := Lib.hid (fun (g : Nat) (h : w.heap.size ≤ g) => (show g ≠ 0 from Nat.ne_of_gt (Nat.lt_of_lt_of_le hk.lt.1 h)))
  have HNE1 := Lib.hid (fun (g : Nat) (h : w.heap.size ≤ g) => (show g ≠ 1 from Nat.ne_of_gt (Nat.lt_of_lt_of_le hk.lt.2 h)))
  clear hk hr
  by_cases hn : n ≤ 2000
  · obtain ⟨U, hU⟩ : ∃ U, U = sum xs := ⟨_, rfl⟩
    have HU := Lib.hid hU
    have UL := Lib.hid (show U.length = 32 by rw [hU]; exact sum_length xs)
    have HM := Lib.hid (show xs.length ≤ 2147483648 by rw [HL.out]; omega)
    have hni : ¬ 2000 < (n : Int) := by omega
    clear hU
    go_enter Tryd.func7, Tryd.ntmps7
    go_wp2_with (first
      | (go_at_call 9; ((with_reducible refine (awake_true _ HK.out).mono ?_); rintro e w1 ⟨rfl, hb1⟩; have B1 := Lib.hid hb1; clear hb1))
      | (go_at_call 17; ((with_reducible refine (new_any w1 (HK.out.below (Nat.le_refl _) B1.out)).mono ?_); rintro e w2 ⟨rfl, h2, b2⟩; have H2 := Lib.hid h2; have B2 := Lib.hid (B1.out.trans (b2.mono B1.out.size)); have G1 := Lib.hid (show w.heap.size ≤ w1.heap.size from B1.out.size); have R2 := Lib.hid ((HR.out.below B1.out).below b2); clear h2 b2))
      | (go_at_call 18; ((with_reducible refine (write_any w1.heap.size A n c [] xs w2 H2.out R2.out (sep_new HR.out G1.out) (HK.out.below (Nat.le_refl _) B2.out).k (HNE.out _ G1.out) (by simp; omega)).mono ?_); rintro e w3 ⟨rfl, h3, o3⟩; have H3 := Lib.hid (show HashIs w3 w1.heap.size xs from h3); have B3 := Lib.hid (below_only B2.out o3 G1.out B2.out.size); clear h3 o3))
      | (go_at_call 19; ((with_reducible refine (sum_any w1.heap.size xs w3 H3.out (HK.out.below (Nat.le_refl _) B3.out) HM.out).mono ?_); rintro e w4 ⟨A4, n4, c4, rfl, o4, b4⟩; have O4 := Lib.hid o4; have H4 := Lib.hid (H3.out.below b4 H3.out.lt); have B4 := Lib.hid (B3.out.trans (b4.mono B3.out.size)); have S4 := Lib.hid (show w3.heap.size ≤ w4.heap.size from b4.size); have B34 := Lib.hid b4; obtain rfl : 32 = n4 := (by have := own_len o4; rw [sum_length] at this; exact this); clear o4 b4))
      | (at_builtin; refine append_rd rfl (.tmp 18) (.tmp 19) rfl w4.heap.size (.slice (some ⟨w4.heap.size, 0, none⟩) 0 0) 0 [] rfl (own_lit_u8 w4 w4.heap.size [] (Nat.le_refl _) (by simp [maxLen])) A4 32 c4 (sum xs) rfl ((Rd.own O4.out).alloc _) (by decide) (by simp) ?_; intro v5 w5 hown5 hg5))
    obtain ⟨A5, c5, rfl⟩ := own_form hown5
    have hown5 : w5.ownsRow w4.heap.size 5 1 (.slice A5 32 c5) 32 (bv U) := by rw [HU.out]; exact hown5
    obtain ⟨b4, cap4, hv4, hb4, hlt4⟩ := O4.out.form (by decide)
    injection hv4 with hA4 _ hc4
    subst hA4
    have hown4 : w5.ownsRow w3.heap.size 5 1 (.slice (some ⟨b4, 0, none⟩) 32 c4) 32 (bv (sum xs)) := own_keep (O4.out.alloc _) hg5 (by simp [Value.ownBlock]; omega)
    have hB5 : Below w3.heap.size w3 w5 := (B34.out.alloc B34.out.size _).grown hg5 (by have := S4.out; simp; omega) (fun k hk => by have := S4.out; simp [Value.ownBlock] at hk; omega)
    clear hg5 hc4
    go_loopw [6] (fun i wr => ∃ (k : Nat) (zs : List UInt8), k ≤ 32 ∧ i = .int .i64 (k : Int) ∧ wr.ownsRow w3.heap.size 5 1 (.slice (some ⟨b4, 0, none⟩) 32 c4) 32 (bv zs) ∧ wr.ownsRow w4.heap.size 5 1 (.slice A5 32 c5) 32 (bv U) ∧ Below w3.heap.size w3 wr)
      (fun i _ => 32 - (intOf i).toNat)
    case atStart => exact ⟨0, sum xs, by omega, rfl, hown4, hown5, hB5⟩
    case round =>
      obtain ⟨k, zs, hk32, rfl, ho4, ho5, hB⟩ := hrel
      clear hown4 hown5 hB5
      by_cases hlt : k < 32
      · have zl := own_len ho4
        have hc := ho4.cellAt k (by omega)
        have hf := ho4.frozenAt k
        have hs := ho4.stored k
        rw [bv_at _ _ (by omega)] at hc
        have hinc := u8_inc (zs[k]'(by omega))
        obtain ⟨z, hz⟩ : ∃ z, z = zs[k]'(by omega) := ⟨_, rfl⟩
        rw [← hz] at hc hinc
        have hbB : w3.heap.size ≤ b4 := hb4
        have i2 : (k : Int) < 32 := by omega
        clear hz zl
        go_wp2
        go_roundw
        case rel => exact ⟨k + 1, zs.set k (z + 1), by omega, by go_num, by rw [← bv_set]; exact (hs _).1, ownsRow_setCell_below ho5 (by simp; omega) _, hB.setCell (by simp; omega) _⟩
        case measure => simp [intOf]; omega
      · obtain rfl : k = 32 := by omega
        clear ho4 hlt hk32 hlt4 hb4
        have H5 := Lib.hid (H3.out.below hB H3.out.lt)
        have B5 := Lib.hid (B3.out.trans (hB.mono B3.out.size))
        have R5 := Lib.hid (Rd.own ho5)
        have R0 := Lib.hid (HR.out.below B5.out)
        have W5 := Lib.hid (show A5 = none ∨ True from .inr trivial)
        have SP := Lib.hid (show 0 < 32 → Sep A5 w1.heap.size from fun _ => own_sep ho5 (by have := H3.out.lt; have := S4.out; omega))
        have LT1 := Lib.hid (show w1.heap.size < wr.heap.size from H5.out.lt)
        clear ho5 hB
        go_wp2_with (first
          | (go_at_call 18; ((with_reducible refine (hash_write_nil w1.heap.size xs wr H5.out (HK.out.below (Nat.le_refl _) B5.out).k (HNE.out _ G1.out) (by have := HM.out; omega)).mono ?_); rintro e w6 ⟨rfl, h6, o6⟩; have H6 := Lib.hid h6; have B6 := Lib.hid (below_only B5.out o6 G1.out B5.out.size); have R6 := Lib.hid (rd_only R5.out SP.out o6); clear h6 o6))
          | (go_at_call 19; ((with_reducible refine (sum_any w1.heap.size xs w6 H6.out (HK.out.below (Nat.le_refl _) B6.out) HM.out).mono ?_); intro e w7 h7; obtain ⟨A7, c7, rfl, r7, b7⟩ := new_len h7; have R7 := Lib.hid r7; have Y7 := Lib.hid (R6.out.below b7); have B7 := Lib.hid (B6.out.trans (b7.mono B6.out.size)); clear h7 r7 b7))
          | (go_at_call 10; ((with_reducible refine (rsame_true A7 A5 _ c7 32 c5 (sum xs) U w7 R7.out Y7.out HU.out.symm).mono ?_); rintro e w8 ⟨rfl, b8⟩; have Y8 := Lib.hid (Y7.out.below b8); have B8 := Lib.hid (B7.out.trans (b8.mono B7.out.size)); clear b8))
          | (go_at_call 11; ((with_reducible refine (one_any A n c xs w8 (HR.out.below B8.out) (HK.out.below (Nat.le_refl _) B8.out) (by omega)).mono ?_); intro e w9 h9; obtain ⟨A9, c9, rfl, r9, b9⟩ := new_len h9; have R9 := Lib.hid r9; have Y9 := Lib.hid (Y8.out.below b9); have B9 := Lib.hid (B8.out.trans (b9.mono B8.out.size)); clear h9 r9 b9))
          | (go_at_call 10; ((with_reducible refine (rsame_true A9 A5 _ c9 32 c5 (sum xs) U w9 R9.out Y9.out HU.out.symm).mono ?_); rintro e w10 ⟨rfl, b10⟩; have B10 := Lib.hid (B9.out.trans (b10.mono B9.out.size)); clear b10)))
        go_ret
        exact ⟨rfl, B10.out⟩
  · have hni : 2000 < (n : Int) := by omega
    go_enter Tryd.func7, Tryd.ntmps7
    go_wp2_with (go_at_call 9; ((with_reducible refine (awake_true _ HK.out).mono ?_); rintro e w1 ⟨rfl, hb1⟩; have B1 := Lib.hid hb1; clear hb1))
    go_ret
    exact ⟨rfl, B1.out⟩
theorem sha2Again_frame (w : World) (hk : GOk w) (A : Option Addr) (n c : Nat) (xs : List UInt8) (hr : Rd w A n c xs) :
    Calls Tryd.prog 7 #[.slice A n c] w fun e w' => e = .returned (.bool true) ∧ Below w.heap.size w w' := sha2Again_walk w hk A n c xs hr
end Go.Proofs.YtfgpahenacgmdaaDoor.S2
