/-
  What the first question of each statement of layer 1 answers: true; nothing that was there is written.
-/
import Derived.Test.YtgiocloegmpehaaRef2
namespace Go.Proofs.Ytgiocloegmpehaa
set_option linter.unusedSimpArgs false
set_option linter.unusedVariables false
open Go.RowKit

theorem rd_lit (w : World) (vs : Array Value) (xs : List UInt8) (h : vs.toList = bv xs) (hm : xs.length ≤ maxLen) (b : Nat) (hb : w.heap.size = b) : Rd (w.alloc (.cells vs 5)) (some ⟨b, 0, none⟩) xs.length xs.length xs := by
  subst hb
  have := own_lit_u8 w 0 xs (Nat.zero_le _) hm
  rw [← h] at this
  exact Rd.own (by rw [← h]; simpa using this)
theorem rdi_lit (w : World) (vs : Array Value) (T : TypeId) (ss : List Int) (h : vs.toList = ss.map (Value.int .i64)) (hm : ss.length ≤ maxLen) (hr : ∀ x ∈ ss, x ≤ (maxLen : Nat)) (b : Nat) (hb : w.heap.size = b) : RdI (w.alloc (.cells vs T)) (some ⟨b, 0, none⟩) ss.length ss.length ss := by
  subst hb
  exact ⟨rfl, Nat.le_refl _, hm, hr, fun _ => ⟨w.heap.size, 0, rfl, by simp, fun j hj => by
    rw [Nat.zero_add, World.cell?_alloc_at vs T _ j rfl, ← Array.getElem?_toList, h]
    simp [hj]⟩⟩
theorem RdI.alloc {w : World} {A : Option Addr} {n c : Nat} {ss : List Int} (h : RdI w A n c ss) (o : Obj) : RdI (w.alloc o) A n c ss := h.below ((Below.refl _ _).alloc (Nat.le_refl _) o)

theorem cutA : cutL [1, 2, 3] [1, 2] = ([[1], [2, 3]], 0) := by decide
theorem cutB : cutL [1] [2] = ([], 2) := by decide

/-- octet.Cut, where its answer is known. -/
theorem cut_is (ps : List (List UInt8)) (code : Int) (A A2 : Option Addr) (m c n c2 : Nat) (xs : List UInt8) (ss : List Int) (w : World) (h : Rd w A m c xs) (h2 : RdI w A2 n c2 ss) (hm : m ≤ 140737488355328) (hn : n ≤ 1000000000)
    (hr : cutL xs ss = (ps, code)) :
    Calls Try.prog 19 #[.slice A m c, .slice A2 n c2] w fun e w' => ∃ (A' : Option Addr) (n' c' : Nat), e = .returned (.tuple #[.slice A' n' c', .int .i64 code]) ∧ RdBs w' A' n' c' ps ∧ Below w.heap.size w w' := by
  have := cut_any A A2 m c n c2 xs ss w h h2 hm hn
  rw [hr] at this
  exact this

theorem get_is (v : Nat) (A : Option Addr) (n c : Nat) (xs : List UInt8) (w : World) (hn : n ≤ 8) (h : Rd w A n c xs) (hv : getL xs = v) :
    Calls Try.prog 10 #[.slice A n c] w fun e w' => e = .returned (.tuple #[.int .u64 (v : Nat), .bool true]) ∧ w = w' := by
  have := get_any A n c xs w hn h
  rw [hv] at this
  exact this

theorem rsame_true (A A' : Option Addr) (n c n' c' : Nat) (xs ys : List UInt8) (w : World) (h1 : Rd w A n c xs) (h2 : Rd w A' n' c' ys) (he : xs = ys) :
    Calls Try.prog 12 #[.slice A n c, .slice A' n' c'] w fun e w' => e = .returned (.bool true) ∧ Below w.heap.size w w' :=
  (rsame_any A A' n c n' c' xs ys w h1 h2).mono fun e w' ⟨h, q, hq⟩ => ⟨by rw [h, he, sameB_refl], by rw [hq]; exact ⟨rfl, rfl, rfl, Nat.le_refl _, fun _ _ => rfl⟩⟩
theorem same_true (A A' : Option Addr) (n c n' c' : Nat) (xs ys : List UInt8) (w : World) (h1 : Rd w A n c xs) (h2 : Rd w A' n' c' ys) (he : xs = ys) :
    Calls Try.prog 15 #[.slice A n c, .slice A' n' c'] w fun e w' => e = .returned (.bool true) ∧ Below w.heap.size w w' :=
  (same_any A A' n c n' c' xs ys w h1 h2).mono fun e w' ⟨h, hq⟩ => ⟨by rw [h, he, sameB_refl], by rw [hq]; exact Below.refl _ _⟩

theorem cat_lit (w : World) : RdBs (((w.alloc (.cells #[.int .u8 1] 5)).alloc (.cells #[.int .u8 2] 5)).alloc (.cells #[.slice (some ⟨w.heap.size, 0, none⟩) 1 1, .slice (some ⟨w.heap.size + 1, 0, none⟩) 1 1] 23))
    (some ⟨w.heap.size + 1 + 1, 0, none⟩) 2 2 [[1], [2]] := by
  have h1 : Rd ((w.alloc (.cells #[.int .u8 1] 5)).alloc (.cells #[.int .u8 2] 5)) (some ⟨w.heap.size, 0, none⟩) 1 1 [1] := (rd_lit w _ [1] (by rfl) (by simp [maxLen]) _ rfl).alloc _
  have h2 : Rd ((w.alloc (.cells #[.int .u8 1] 5)).alloc (.cells #[.int .u8 2] 5)) (some ⟨w.heap.size + 1, 0, none⟩) 1 1 [2] := rd_lit _ _ [2] (by rfl) (by simp [maxLen]) _ (by simp)
  have h := RdBs.built2 _ 23 h1 h2
  have e : ((w.alloc (.cells #[.int .u8 1] 5)).alloc (.cells #[.int .u8 2] 5)).heap.size = w.heap.size + 1 + 1 := by simp
  rw [e] at h
  exact h

set_option maxHeartbeats 1000000 in
theorem awake_true (w : World) : Calls Try.prog 8 #[] w fun e w' => e = .returned (.bool true) ∧ Below w.heap.size w w' := by
  go_enter Try.func8, Try.ntmps8
  go_wp2_with (go_at_call 9; refine (put_any 258 3 _ (by omega) (by omega)).mono ?_; rintro e w1 ⟨A1, n1, c1, rfl, ho1, hb1⟩)
  have hr1 := Rd.own ho1
  go_wp2_with (go_at_call 10; refine (get_is 258 _ 2 2 [1, 2] _ (by omega) (rd_lit w1 _ [1, 2] (by rfl) (by simp [maxLen]) _ rfl) rfl).mono ?_; rintro e w2 ⟨rfl, rfl⟩)
  go_wp2_with (go_at_call 19; ((with_reducible refine (cut_is [[1], [2, 3]] 0 _ _ 3 3 2 2 [1, 2, 3] [1, 2] _ ?_ ?_ (by omega) (by omega) cutA).mono ?_); exact (rd_lit _ _ [1, 2, 3] (by rfl) (by simp [maxLen]) _ (by simp)).alloc _; exact rdi_lit _ _ _ [1, 2] (by rfl) (by simp [maxLen]) (by simp [maxLen]) _ (by simp); rintro e w3 ⟨A3, n3, c3, rfl, hr3, hb3⟩))
  obtain rfl : n3 = 2 := hr3.len.symm
  obtain ⟨b3, o3, rfl, hb3', hat3⟩ := hr3.at_ (by omega)
  obtain ⟨A4, n4, c4, hc4, hr4⟩ := hat3 1 (by omega)
  have hr4 : Rd w3 A4 n4 c4 [2, 3] := hr4
  clear hat3
  go_wp2_with (go_at_call 19; ((with_reducible refine (cut_is [] 2 _ _ 1 1 1 1 [1] [2] _ ?_ ?_ (by omega) (by omega) cutB).mono ?_); exact (rd_lit _ _ [1] (by rfl) (by simp [maxLen]) _ (by simp)).alloc _; exact rdi_lit _ _ _ [2] (by rfl) (by simp [maxLen]) (by simp [maxLen]) _ (by simp); rintro e w5 ⟨A5, n5, c5, rfl, hr5, hb5⟩))
  have hb13 : Below w1.heap.size w1 w3 := ((((Below.refl _ _).alloc (Nat.le_refl _) _).alloc (by simp) _).alloc (by simp; omega) _).trans (hb3.mono (by simp; omega))
  have hb35 : Below w3.heap.size w3 w5 := (((Below.refl _ _).alloc (Nat.le_refl _) _).alloc (by simp) _).trans (hb5.mono (by simp; omega))
  have hr1 := (hr1.below hb13).below hb35
  have hr4 := hr4.below hb35
  have hc4 := (hb35.cell (p := ⟨b3, o3 + 1, none⟩) hb3').trans hc4
  have hb3' : b3 < w5.heap.size := Nat.lt_of_lt_of_le hb3' hb35.size
  go_wp2_with (go_at_call 12; ((with_reducible refine (rsame_true _ _ _ _ 3 3 (putL 258 3) [0, 1, 2] _ ?_ ?_ ?_).mono ?_); exact hr1.alloc _; exact rd_lit _ _ [0, 1, 2] (by rfl) (by simp [maxLen]) _ (by simp); rfl; rintro e w6 ⟨rfl, hb6⟩; have hb56 : Below w5.heap.size w5 w6 := ((Below.refl _ _).alloc (Nat.le_refl _) _).trans (hb6.mono (by simp)); have hc6 := (hb56.cell (p := ⟨b3, o3 + 1, none⟩) hb3').trans hc4))
  have hr4 := hr4.below hb56
  have hb3' : b3 < w6.heap.size := Nat.lt_of_lt_of_le hb3' hb56.size
  go_wp2_with (go_at_call 12; ((with_reducible refine (rsame_true _ _ _ _ 2 2 [2, 3] [2, 3] _ ?_ ?_ ?_).mono ?_); exact hr4.alloc _; exact rd_lit _ _ [2, 3] (by rfl) (by simp [maxLen]) _ (by simp); rfl; rintro e w7 ⟨rfl, hb7⟩))
  go_wp2_with (go_at_call 18; ((with_reducible refine (cat_any _ 2 2 [[1], [2]] _ ?_ ?_).mono ?_); exact cat_lit w7; simp; rintro e w8 ⟨A8, n8, c8, rfl, ho8, hb8⟩))
  have hr8 := Rd.own ho8
  go_wp2_with (go_at_call 15; ((with_reducible refine (same_true _ _ _ _ 2 2 [[1], [2]].flatten [1, 2] _ ?_ ?_ ?_).mono ?_); exact hr8.alloc _; exact rd_lit _ _ [1, 2] (by rfl) (by simp [maxLen]) _ (by simp); rfl; rintro e w9 ⟨rfl, hb9⟩))
  go_wp2_with (go_at_call 16; refine (fill_any 7 2 _ (by omega)).mono ?_; rintro e w10 ⟨A10, n10, c10, rfl, ho10, hb10⟩)
  have hr10 := Rd.own ho10
  go_wp2_with (go_at_call 12; ((with_reducible refine (rsame_true _ _ _ _ 2 2 (List.replicate 2 7) [7, 7] _ ?_ ?_ ?_).mono ?_); exact hr10.alloc _; exact rd_lit _ _ [7, 7] (by rfl) (by simp [maxLen]) _ (by simp); rfl; rintro e w11 ⟨rfl, hb11⟩))
  go_ret
  refine ⟨rfl, ?_⟩
  have s1 := hb1.size
  have s3 := hb13.size
  have s5 := hb35.size
  have s6 := hb56.size
  have b6 := ((hb1.trans (hb13.mono s1)).trans (hb35.mono (by omega))).trans (hb56.mono (by omega))
  have b7 := (b6.alloc b6.size _).trans (hb7.mono (by simp; omega))
  have b8 := (((b7.alloc b7.size _).alloc (by simp; have := b7.size; omega) _).alloc (by simp; have := b7.size; omega) _).trans (hb8.mono (by simp; have := b7.size; omega))
  have b9 := (b8.alloc b8.size _).trans (hb9.mono (by simp; have := b8.size; omega))
  have b10 := b9.trans (hb10.mono b9.size)
  exact (b10.alloc b10.size _).trans (hb11.mono (by simp; have := b10.size; omega))
end Go.Proofs.Ytgiocloegmpehaa
