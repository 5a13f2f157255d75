/-
  What the first question of each statement of layer 2 answers: true; nothing that was there is written.
-/
import Derived.Test.YtfgpahenacgmdaaDoorHash3
import Derived.Test.YtfgpahenacgmdaaDoorRTurn
import Derived.Test.YtfgpahenacgmdaaDoorSame
import Derived.Lib.SlBytesConst
namespace Go.Proofs.YtfgpahenacgmdaaDoor.S2
set_option linter.unusedSimpArgs false
set_option linter.unusedVariables false
open Go.RowKit

def abcL : List UInt8 := [0xba, 0x78, 0x16, 0xbf, 0x8f, 0x01, 0xcf, 0xea, 0x41, 0x41, 0x40, 0xde, 0x5d, 0xae, 0x22, 0x23, 0xb0, 0x03, 0x61, 0xa3, 0x96, 0x17, 0x7a, 0x9c, 0xb4, 0x10, 0xff, 0x61, 0xf2, 0x00, 0x15, 0xad]
theorem new_len {B : Nat} {w w' : World} {xs : List UInt8} {e : Ending} (h : New B w xs e w') : ∃ (A : Option Addr) (c : Nat), e = .returned (.slice A xs.length c) ∧ Rd w' A xs.length c xs ∧ Below B w w' := by
  obtain ⟨A, n, c, he, ho, hb⟩ := h
  have hl := own_len ho
  subst hl
  exact ⟨A, c, he, Rd.own ho, hb⟩
theorem k_0 (w : World) (hk : KOk w) : Calls Tryd.prog 15 #[.int .i64 0] w fun e w' => e = .returned (.int .u32 1116352408) ∧ w = w' := k_any 0 w hk
theorem rd_mark (w : World) (vs : Array Value) (xs : List UInt8) (fr : Nat × Nat) (h : vs.toList = bv xs) (hm : xs.length ≤ maxLen) : Rd (w.alloc (.cells vs 5 fr)) (some ⟨w.heap.size, 0, none⟩) xs.length xs.length xs := by
  obtain ⟨vs⟩ := vs
  simp only at h
  subst h
  refine ⟨rfl, Nat.le_refl _, hm, (fun e => by cases e), fun hn => ⟨w.heap.size, 0, rfl, by simp, fun j hj => ?_⟩⟩
  rw [cell_of_row _ _ _ _ _ fr (heap_alloc_new w _), Nat.zero_add]
  exact bv_getElem? _ _ hj
theorem rd_only {w w' : World} {A : Option Addr} {n c g : Nat} {xs : List UInt8} (h : Rd w A n c xs) (hs : 0 < n → Sep A g) (ho : w.grownBy w' (some g)) : Rd w' A n c xs :=
  ⟨h.len, h.cap, h.max, h.nil, fun hn => (Rd.only h (hs hn) ho).at_ hn⟩
theorem rd_abc (w : World) : Rd (w.alloc (.cells #[.int .u8 186, .int .u8 120, .int .u8 22, .int .u8 191, .int .u8 143, .int .u8 1, .int .u8 207, .int .u8 234, .int .u8 65, .int .u8 65, .int .u8 64, .int .u8 222, .int .u8 93, .int .u8 174, .int .u8 34, .int .u8 35, .int .u8 176, .int .u8 3, .int .u8 97, .int .u8 163, .int .u8 150, .int .u8 23, .int .u8 122, .int .u8 156, .int .u8 180, .int .u8 16, .int .u8 255, .int .u8 97, .int .u8 242, .int .u8 0, .int .u8 21, .int .u8 173] 5)) (some ⟨w.heap.size, 0, none⟩) 32 32 abcL := rd_lit w _ abcL rfl (by simp [maxLen, abcL]) _ rfl
theorem sep_at {b g : Nat} (h : b ≠ g) (n : Nat) : 0 < n → Sep (some ⟨b, 0, none⟩) g := fun _ => end_sep h
set_option maxHeartbeats 2000000 in
theorem awake_true (w : World) (hk : GOk w) : Calls Tryd.prog 9 #[] w fun e w' => e = .returned (.bool true) ∧ Below w.heap.size w w' := by
  have HS := Lib.hid (show sum [97, 98, 99] = abcL from sum_abc)
  have HK := Lib.hid hk
  have HNE := Lib.hid (fun (g : Nat) (h : w.heap.size ≤ g) => (show g ≠ 0 from Nat.ne_of_gt (Nat.lt_of_lt_of_le hk.lt.1 h)))
  have HNE1 := Lib.hid (fun (g : Nat) (h : w.heap.size ≤ g) => (show g ≠ 1 from Nat.ne_of_gt (Nat.lt_of_lt_of_le hk.lt.2 h)))
  clear hk
  have kc := fun (w : World) (C : Array Value) (n c : Nat) => Lib.run_convert_bytes_const (P := Tryd.prog) w 22 5 C n c Tryd.underlying22 Tryd.underlying5
  go_enter Tryd.func9, Tryd.ntmps9
  go_wp2_with (first
    | (go_at_call 11; ((with_reducible refine (one_any (some ⟨w.heap.size, 0, none⟩) 3 3 [97, 98, 99] _ (rd_mark w _ [97, 98, 99] _ rfl (by simp [maxLen])) (HK.out.below (Nat.le_refl _) ((Below.refl _ _).alloc (Nat.le_refl _) _)) (by decide)).mono ?_); intro e w1 h1; obtain ⟨A1, c1, rfl, r1, b1⟩ := new_len h1; have B1 := Lib.hid (((Below.refl w.heap.size w).alloc (Nat.le_refl _) _).trans (b1.mono (by simp))); have R1 := Lib.hid r1; clear h1 r1 b1))
    | (go_at_call 17; ((with_reducible refine (new_any w1 (HK.out.below (Nat.le_refl _) B1.out)).mono ?_); rintro e w2 ⟨rfl, h2, b2⟩; have H2 := Lib.hid h2; have B2 := Lib.hid (B1.out.trans (b2.mono B1.out.size)); have R2 := Lib.hid (R1.out.below b2); have G2 := Lib.hid (show w1.heap.size < w2.heap.size from h2.lt); have G1 := Lib.hid (show w.heap.size ≤ w1.heap.size from B1.out.size); clear h2 b2))
    | (go_at_call 18; ((with_reducible refine (write_any w1.heap.size (some ⟨w2.heap.size, 0, none⟩) 1 1 [] [97] _ (H2.out.below ((Below.refl _ _).alloc (Nat.le_refl _) _) G2.out) (rd_mark w2 _ [97] _ rfl (by simp [maxLen])) (sep_at (Nat.ne_of_gt G2.out) 1) (HK.out.below (Nat.le_refl _) (B2.out.alloc B2.out.size _)).k (HNE.out _ G1.out) (by simp)).mono ?_); rintro e w3 ⟨rfl, h3, o3⟩; have H3 := Lib.hid (show HashIs w3 w1.heap.size [97] from h3); have B3 := Lib.hid (below_only (B2.out.alloc B2.out.size _) o3 G1.out (by have := B2.out.size; simp; omega)); have R3 := Lib.hid (rd_only (R2.out.alloc _) (sep_new R1.out (Nat.le_refl _)) o3); clear h3 o3))
    | (go_at_call 18; ((with_reducible refine (write_any w1.heap.size (some ⟨w3.heap.size, 0, none⟩) 2 2 [97] [98, 99] _ (H3.out.below ((Below.refl _ _).alloc (Nat.le_refl _) _) H3.out.lt) (rd_mark w3 _ [98, 99] _ rfl (by simp [maxLen])) (sep_at (Nat.ne_of_gt H3.out.lt) 2) (HK.out.below (Nat.le_refl _) (B3.out.alloc B3.out.size _)).k (HNE.out _ G1.out) (by simp)).mono ?_); rintro e w4 ⟨rfl, h4, o4⟩; have H4 := Lib.hid (show HashIs w4 w1.heap.size [97, 98, 99] from h4); have B4 := Lib.hid (below_only (B3.out.alloc B3.out.size _) o4 G1.out (by have := B3.out.size; simp; omega)); have R4 := Lib.hid (rd_only (R3.out.alloc _) (sep_new R1.out (Nat.le_refl _)) o4); clear h4 o4))
    | (go_at_call 10; ((with_reducible refine (rsame_true A1 (some ⟨w4.heap.size, 0, none⟩) _ c1 32 32 (sum [97, 98, 99]) abcL _ (R4.out.alloc _) (rd_abc w4) HS.out).mono ?_); rintro e w5 ⟨rfl, b5⟩; have B5 := Lib.hid ((B4.out.alloc B4.out.size _).trans (b5.mono (by have := B4.out.size; simp; omega))); have H5 := Lib.hid ((H4.out.below ((Below.refl _ _).alloc (Nat.le_refl _) _) H4.out.lt).below b5 (by have := H4.out.lt; simp; omega)); have L5 := Lib.hid ((rd_abc w4).below b5); clear b5))
    | (go_at_call 19; ((with_reducible refine (sum_any w1.heap.size [97, 98, 99] _ H5.out (HK.out.below (Nat.le_refl _) B5.out) (by simp)).mono ?_); intro e w6 h6; obtain ⟨A6, c6, rfl, r6, b6⟩ := new_len h6; have B6 := Lib.hid (B5.out.trans (b6.mono B5.out.size)); have L6 := Lib.hid (L5.out.below b6); have R6 := Lib.hid r6; clear h6 r6 b6))
    | (go_at_call 10; ((with_reducible refine (rsame_true A6 (some ⟨w4.heap.size, 0, none⟩) _ c6 32 32 (sum [97, 98, 99]) abcL _ R6.out L6.out HS.out).mono ?_); rintro e w7 ⟨rfl, b7⟩; have B7 := Lib.hid (B6.out.trans (b7.mono B6.out.size)); clear b7))
    | (go_at_call 15; ((with_reducible refine (k_0 _ (HK.out.below (Nat.le_refl _) B7.out).k).mono ?_); rintro e w8 ⟨rfl, rfl⟩)))
  go_ret
  exact ⟨rfl, B7.out⟩
end Go.Proofs.YtfgpahenacgmdaaDoor.S2
