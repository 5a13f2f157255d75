/-
  Sums with a key and masks, in plain words. No statement is proved here.
-/
import Derived.Test.YtjgcaodicbikiaaDoorHash3
import Derived.Test.YtjgcaodicbikiaaDoorHash3V
import Derived.Test.YtjgcaodicbikiaaDoorTool
namespace Go.Proofs.YtjgcaodicbikiaaDoor.S6
open Go.RowKit
set_option linter.unusedSimpArgs false
set_option linter.unusedVariables false

def szK (k : Int) : Nat := if k = 0 then 32 else if k = 1 then 64 else 0
def blK (k : Int) : Nat := if k = 0 then 64 else if k = 1 then 128 else 0
def sumK (k : Int) (xs : List UInt8) : List UInt8 := if k = 0 then S2.sum xs else if k = 1 then S5.sum xs else []
theorem sumK_length (k : Int) (xs : List UInt8) : (sumK k xs).length = szK k := by
  unfold sumK szK
  split
  · exact S2.sum_length xs
  · split
    · exact S5.sum_length xs
    · rfl
def keyK (k : Int) (key : List UInt8) : List UInt8 := if blK k < key.length then sumK k key else key
/-- n bytes: the key's, behind it 0, each put together with c. -/
def row (c : UInt8) (n : Nat) (key : List UInt8) : List UInt8 := (List.range n).map fun i => (key[i]?.getD 0) ^^^ c
theorem row_length (c : UInt8) (n : Nat) (key : List UInt8) : (row c n key).length = n := by simp [row]
theorem row_succ (c : UInt8) (n : Nat) (key : List UInt8) : row c (n + 1) key = row c n key ++ [(key[n]?.getD 0) ^^^ c] := by simp [row, List.range_succ]
def macK (k : Int) (key text : List UInt8) : List UInt8 := if blK k = 0 then [] else sumK k (row 92 (blK k) (keyK k key) ++ sumK k (row 54 (blK k) (keyK k key) ++ text))
/-- The first m sums of a text and a number. -/
def pts (k : Int) (text : List UInt8) (m : Nat) : List UInt8 := ((List.range m).map fun i => sumK k (text ++ putL i 4)).flatten
theorem pts_succ (k : Int) (text : List UInt8) (m : Nat) : pts k text (m + 1) = pts k text m ++ sumK k (text ++ putL m 4) := by simp [pts, List.range_succ]
theorem pts_length (k : Int) (text : List UInt8) (m : Nat) : (pts k text m).length = m * szK k := by
  induction m with
  | zero => simp [pts]
  | succ m ih => rw [pts_succ, List.length_append, ih, sumK_length, Nat.succ_mul]
theorem pts_more (k : Int) (text : List UInt8) (m d : Nat) : ∃ r, pts k text (m + d) = pts k text m ++ r := by
  induction d with
  | zero => exact ⟨[], by simp⟩
  | succ d ih =>
    obtain ⟨r, hr⟩ := ih
    exact ⟨r ++ sumK k (text ++ putL (m + d) 4), by rw [show m + (d + 1) = m + d + 1 by omega, pts_succ, hr, List.append_assoc]⟩
theorem pts_take (k : Int) (text : List UInt8) (m m' n : Nat) (h : n ≤ m * szK k) (h' : n ≤ m' * szK k) : (pts k text m).take n = (pts k text m').take n := by
  rcases Nat.le_total m m' with hm | hm
  · obtain ⟨r, hr⟩ := pts_more k text m (m' - m)
    rw [show m + (m' - m) = m' by omega] at hr
    rw [hr, List.take_append_of_le_length (by rw [pts_length]; exact h)]
  · obtain ⟨r, hr⟩ := pts_more k text m' (m - m')
    rw [show m' + (m - m') = m by omega] at hr
    rw [hr, List.take_append_of_le_length (by rw [pts_length]; exact h')]
def maskK (k : Int) (text : List UInt8) (n : Int) : List UInt8 := if blK k = 0 ∨ n < 0 ∨ 65536 < n then [] else (pts k text n.toNat).take n.toNat
theorem szK_pos (k : Int) (h : blK k ≠ 0) : 32 ≤ szK k ∧ szK k ≤ 64 ∧ 64 ≤ blK k ∧ blK k ≤ 128 := by
  unfold blK at h
  unfold szK blK
  split
  · omega
  · split
    · omega
    · rename_i h0 h1; simp [h0, h1] at h
theorem maskK_length (k : Int) (text : List UInt8) (n : Int) (hb : blK k ≠ 0) (h0 : 0 ≤ n) (h1 : n ≤ 65536) : (maskK k text n).length = n.toNat := by
  unfold maskK
  rw [if_neg (by omega), List.length_take, pts_length]
  have := szK_pos k hb
  have : n.toNat * 32 ≤ n.toNat * szK k := Nat.mul_le_mul_left _ (by omega)
  omega
/-- The mask is the beginning of the parts, whatever many, if there are enough. -/
theorem maskK_parts (k : Int) (text : List UInt8) (n : Int) (hb : blK k ≠ 0) (h0 : 0 ≤ n) (h1 : n ≤ 65536) (m : Nat) (hm : n.toNat ≤ m * szK k) : maskK k text n = (pts k text m).take n.toNat := by
  unfold maskK
  rw [if_neg (by omega)]
  have := szK_pos k hb
  have : n.toNat * 32 ≤ n.toNat * szK k := Nat.mul_le_mul_left _ (by omega)
  exact pts_take k text _ _ _ (by omega) hm
/-- A longer mask begins as the shorter one. -/
theorem maskK_take (k : Int) (text : List UInt8) (n m : Nat) (hb : blK k ≠ 0) (hn : n ≤ 65536) (hm : m ≤ n) : (maskK k text (n : Int)).take m = maskK k text (m : Int) := by
  have h3 := szK_pos k hb
  have h4 : n * 32 ≤ n * szK k := Nat.mul_le_mul_left _ (by omega)
  rw [maskK_parts k text (n : Int) hb (by omega) (by omega) n (by rw [Int.toNat_natCast]; omega), maskK_parts k text (m : Int) hb (by omega) (by omega) n (by rw [Int.toNat_natCast]; omega), List.take_take, Int.toNat_natCast, Int.toNat_natCast, Nat.min_eq_left hm]
theorem row_zeros (c : UInt8) (n d : Nat) (key : List UInt8) : row c n (key ++ List.replicate d 0) = row c n key := by
  unfold row
  apply List.map_congr_left
  intro i _
  congr 1
  by_cases h : i < key.length
  · rw [List.getElem?_append_left h]
  · rw [List.getElem?_append_right (by omega), List.getElem?_eq_none (l := key) (by omega)]
    by_cases h2 : i - key.length < d
    · simp [h2]
    · rw [List.getElem?_eq_none (by simp; omega)]
/-- A key longer than a block is as good as its sum. -/
theorem macK_sum (k : Int) (key text : List UInt8) (h : blK k < key.length) : macK k (sumK k key) text = macK k key text := by
  by_cases hb : blK k = 0
  · simp [macK, hb]
  · have := szK_pos k hb
    have e : keyK k (sumK k key) = keyK k key := by
      rw [keyK, keyK, sumK_length, if_neg (by omega), if_pos h]
    simp only [macK, e]
/-- Bytes 0 behind a key no longer than a block change nothing. -/
theorem macK_zeros (k : Int) (key text : List UInt8) (d : Nat) (h : key.length + d ≤ blK k) : macK k (key ++ List.replicate d 0) text = macK k key text := by
  have e : keyK k (key ++ List.replicate d 0) = key ++ List.replicate d 0 := by
    rw [keyK, if_neg (by simp; omega)]
  have e2 : keyK k key = key := by rw [keyK, if_neg (by omega)]
  simp only [macK, e, e2, row_zeros]
theorem macK_length (k : Int) (key text : List UInt8) (hb : blK k ≠ 0) : (macK k key text).length = szK k := by
  rw [macK, if_neg hb, sumK_length]
/-- A mask's parts are the sums of the text and the numbers. -/
theorem mask_part (k : Int) (text : List UInt8) (m N : Nat) (hb : blK k ≠ 0) (hm : m * szK k ≤ 65536) (hN : N < m) : ((maskK k text ((m * szK k : Nat) : Int)).drop (N * szK k)).take (szK k) = sumK k (text ++ putL N 4) := by
  have h3 := szK_pos k hb
  rw [maskK_parts k text _ hb (by omega) (by omega) m (by rw [Int.toNat_natCast]; exact Nat.le_refl _), Int.toNat_natCast, List.take_of_length_le (l := pts k text m) (by rw [pts_length]; exact Nat.le_refl _)]
  obtain ⟨r, hr⟩ := pts_more k text (N + 1) (m - (N + 1))
  rw [show N + 1 + (m - (N + 1)) = m by omega, pts_succ] at hr
  rw [hr, List.append_assoc, List.drop_append_of_le_length (by rw [pts_length]; exact Nat.le_refl _), List.drop_of_length_le (by rw [pts_length]; exact Nat.le_refl _), List.nil_append, List.take_append_of_le_length (by rw [sumK_length]; exact Nat.le_refl _), List.take_of_length_le (by rw [sumK_length]; exact Nat.le_refl _)]
/-- What a call gives: bytes that read so. -/
def Gives (B : Nat) (w : World) (xs : List UInt8) (e : Ending) (w' : World) : Prop := ∃ (A : Option Addr) (c : Nat), e = .returned (.slice A xs.length c) ∧ Rd w' A xs.length c xs ∧ Below B w w'
theorem Gives.of_new {B : Nat} {w w' : World} {xs : List UInt8} {e : Ending} (h : New B w xs e w') : Gives B w xs e w' := new_len h
/-- The same, in new memory. -/
def GivesF (B : Nat) (w : World) (xs : List UInt8) (e : Ending) (w' : World) : Prop := ∃ (A : Option Addr) (c : Nat), e = .returned (.slice A xs.length c) ∧ Rd w' A xs.length c xs ∧ Below B w w' ∧ ∀ a, A = some a → B ≤ a.block
theorem GivesF.gives {B : Nat} {w w' : World} {xs : List UInt8} {e : Ending} (h : GivesF B w xs e w') : Gives B w xs e w' := by
  obtain ⟨A, c, h1, h2, h3, _⟩ := h
  exact ⟨A, c, h1, h2, h3⟩
theorem GivesF.of_new {B : Nat} {w w' : World} {xs : List UInt8} {e : Ending} (h : New B w xs e w') : GivesF B w xs e w' := by
  obtain ⟨A, n, c, rfl, ho, hb⟩ := h
  have hn := own_len ho
  subst hn
  refine ⟨A, c, rfl, Rd.own ho, hb, fun a ha => ?_⟩
  subst ha
  exact (ho.lt a.block rfl).1
theorem Rd.apart {w w' : World} {A : Option Addr} {n c : Nat} {xs : List UInt8} {r : Option Nat} (h : Rd w A n c xs) (hg : w.grownBy w' r) (hne : ∀ a, A = some a → some a.block ≠ r) : Rd w' A n c xs := by
  refine ⟨h.len, h.cap, h.max, h.nil, fun hn => ?_⟩
  obtain ⟨b, off, rfl, hb, hc⟩ := h.at_ hn
  exact ⟨b, off, rfl, Nat.lt_of_lt_of_le hb hg.size, fun j hj => (World.cell?_of_block (hg.block b hb (hne _ rfl))).trans (hc j hj)⟩
end Go.Proofs.YtjgcaodicbikiaaDoor.S6
