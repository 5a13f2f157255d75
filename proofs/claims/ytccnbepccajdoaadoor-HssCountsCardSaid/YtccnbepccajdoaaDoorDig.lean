/-
  Bytes ps digits and what they lack, in plain words; of two unlike rows some digit is less, and some more. No statement is proved here.
-/
import Derived.Test.YtccnbepccajdoaaDoorWords
namespace Go.Proofs.YtccnbepccajdoaaDoor.S7
set_option linter.unusedSimpArgs false
set_option linter.unusedVariables false
set_option maxRecDepth 1024

/-- The digit i of a byte x, of width w. -/
def dg (w x i : Nat) : Nat := x / 2 ^ (8 - w * (i + 1)) % 2 ^ w
def ofB (w x : Nat) : List Nat := (List.range (8 / w)).map (dg w x)
def ofL (w : Nat) (xs : List UInt8) : List Nat := (xs.map fun x => ofB w x.toNat).flatten
/-- What digits lack. -/
def lk (w : Nat) (ds : List Nat) : Nat := (ds.map fun d => 2 ^ w - 1 - d).sum
def wid (w : Nat) : Prop := w = 1 ∨ w = 2 ∨ w = 4 ∨ w = 8
/-- How many digits x has to the base b. -/
def nd (b : Nat) : Nat → Nat → Nat
  | 0, _ => 0
  | f + 1, x => if x = 0 then 0 else nd b f (x / b) + 1
def shU (n w : Nat) : Nat := 8 * n / w
def shV (n w : Nat) : Nat := nd (2 ^ w) 20 ((2 ^ w - 1) * shU n w)
def shL (n w : Nat) : Nat := 16 - shV n w * w
def allL (w : Nat) (xs : List UInt8) : List Nat :=
  ofL w xs ++ (ofL w [UInt8.ofNat (lk w (ofL w xs) * 2 ^ shL xs.length w / 256), UInt8.ofNat (lk w (ofL w xs) * 2 ^ shL xs.length w)]).take (shV xs.length w)

theorem wid_div {w : Nat} (h : wid w) : w * (8 / w) = 8 ∧ 1 ≤ w ∧ w ≤ 8 := by rcases h with h | h | h | h <;> subst h <;> decide
theorem dg_lt (w x i : Nat) : dg w x i < 2 ^ w := Nat.mod_lt _ (Nat.two_pow_pos _)
theorem ofB_length (w x : Nat) : (ofB w x).length = 8 / w := by simp [ofB]
theorem ofL_length (w : Nat) (xs : List UInt8) : (ofL w xs).length = xs.length * (8 / w) := by
  induction xs with
  | nil => simp [ofL]
  | cons x xs ih =>
    have e : ofL w (x :: xs) = ofB w x.toNat ++ ofL w xs := by simp [ofL]
    rw [e, List.length_append, ofB_length, ih, List.length_cons, Nat.succ_mul, Nat.add_comm]
theorem ofL_lt (w : Nat) (xs : List UInt8) : ∀ d ∈ ofL w xs, d < 2 ^ w := by
  intro d hd
  simp only [ofL, ofB, List.mem_flatten, List.mem_map] at hd
  obtain ⟨l, ⟨x, _, rfl⟩, hl⟩ := hd
  obtain ⟨i, _, rfl⟩ := List.mem_map.1 hl
  exact dg_lt _ _ _
theorem ofL_append (w : Nat) (xs ys : List UInt8) : ofL w (xs ++ ys) = ofL w xs ++ ofL w ys := by simp [ofL]
theorem lk_append (w : Nat) (ps qs : List Nat) : lk w (ps ++ qs) = lk w ps + lk w qs := by simp [lk]
theorem lk_le (w : Nat) (ds : List Nat) : lk w ds ≤ (2 ^ w - 1) * ds.length := by
  induction ds with
  | nil => simp [lk]
  | cons d ds ih =>
    have e : lk w (d :: ds) = (2 ^ w - 1 - d) + lk w ds := by simp [lk]
    rw [e, List.length_cons, Nat.mul_succ]
    omega
/-- The number that digits say. -/
def val (b : Nat) (ds : List Nat) : Nat := ds.foldl (fun v d => v * b + d) 0
theorem val_snoc (b : Nat) (ds : List Nat) (d : Nat) : val b (ds ++ [d]) = val b ds * b + d := by simp [val]
/-- The first v digits of a number of T bits. -/
theorem val_take (w T N v : Nat) (hv : w * v ≤ T) (hN : N < 2 ^ T) : val (2 ^ w) ((List.range v).map fun i => N / 2 ^ (T - w * (i + 1)) % 2 ^ w) = N / 2 ^ (T - w * v) := by
  induction v with
  | zero =>
    simp only [List.range_zero, List.map_nil, val, List.foldl_nil, Nat.mul_zero, Nat.sub_zero]
    exact (Nat.div_eq_of_lt hN).symm
  | succ v ih =>
    have h1 : w * v + w ≤ T := by rw [← Nat.mul_succ]; exact hv
    rw [List.range_succ, List.map_append, List.map_cons, List.map_nil, val_snoc, ih (by omega)]
    have e : T - w * v = (T - w * (v + 1)) + w := by rw [Nat.mul_succ]; omega
    rw [e, Nat.pow_add, ← Nat.div_div_eq_div_mul]
    exact Nat.div_add_mod' _ _
theorem val_byte (w x : Nat) (hw : wid w) (hx : x < 256) : val (2 ^ w) (ofB w x) = x := by
  have h := wid_div hw
  have := val_take w 8 x (8 / w) (by omega) hx
  rw [h.1] at this
  refine Eq.trans this ?_
  simp
theorem ofL_inj (w : Nat) (hw : wid w) : ∀ xs ys : List UInt8, xs.length = ys.length → ofL w xs = ofL w ys → xs = ys
  | [], [], _, _ => rfl
  | x :: xs, y :: ys, hl, h => by
    have e : ∀ (z : UInt8) zs, ofL w (z :: zs) = ofB w z.toNat ++ ofL w zs := fun z zs => by simp [ofL]
    rw [e, e] at h
    obtain ⟨h1, h2⟩ := List.append_inj h (by rw [ofB_length, ofB_length])
    have hx := val_byte w x.toNat hw x.toNat_lt
    have hy := val_byte w y.toNat hw y.toNat_lt
    rw [h1, hy] at hx
    rw [UInt8.toNat_inj.1 hx, ofL_inj w hw xs ys (by simpa using hl) h2]
  | [], _ :: _, hl, _ => by simp at hl
  | _ :: _, [], hl, _ => by simp at hl
/-- Two bytes ps digits are the digits of their number. -/
theorem ofL_two (w : Nat) (hw : wid w) (N : Nat) (hN : N < 65536) : ofL w [UInt8.ofNat (N / 256), UInt8.ofNat N] = (List.range (16 / w)).map fun i => N / 2 ^ (16 - w * (i + 1)) % 2 ^ w := by
  have h1 : (UInt8.ofNat (N / 256)).toNat = N / 256 := by rw [UInt8.toNat_ofNat']; omega
  have h2 : (UInt8.ofNat N).toNat = N % 256 := by rw [UInt8.toNat_ofNat']
  have e : ofL w [UInt8.ofNat (N / 256), UInt8.ofNat N] = ofB w (N / 256) ++ ofB w (N % 256) := by simp [ofL, h1, h2]
  rw [e]
  rcases hw with h | h | h | h <;> subst h <;> simp [ofB, dg, List.range_succ] <;> omega
/-- No digit is less. -/
def ge : List Nat → List Nat → Prop
  | [], [] => True
  | a :: ps, b :: qs => b ≤ a ∧ ge ps qs
  | _, _ => False
theorem ge_split : ∀ (ps qs cs ds : List Nat), ps.length = qs.length → ge (ps ++ cs) (qs ++ ds) → ge ps qs ∧ ge cs ds
  | [], [], cs, ds, _, h => ⟨trivial, h⟩
  | a :: ps, b :: qs, cs, ds, hl, h => by
    obtain ⟨h1, h2⟩ := ge_split ps qs cs ds (by simpa using hl) h.2
    exact ⟨⟨h.1, h1⟩, h2⟩
  | [], _ :: _, _, _, hl, _ => by simp at hl
  | _ :: _, [], _, _, hl, _ => by simp at hl
theorem ge_lk (w : Nat) : ∀ ps qs : List Nat, ge ps qs → (∀ a ∈ ps, a < 2 ^ w) → lk w ps ≤ lk w qs ∧ (lk w ps = lk w qs → ps = qs)
  | [], [], _, _ => ⟨Nat.le_refl _, fun _ => rfl⟩
  | a :: ps, b :: qs, h, hm => by
    obtain ⟨h1, h2⟩ := ge_lk w ps qs h.2 (fun x hx => hm x (List.mem_cons_of_mem _ hx))
    have ha := hm a (List.mem_cons_self ..)
    have hb : b ≤ a := h.1
    have e : ∀ (d : Nat) ds, lk w (d :: ds) = (2 ^ w - 1 - d) + lk w ds := fun d ds => by simp [lk]
    rw [e, e]
    refine ⟨by omega, fun he => ?_⟩
    obtain rfl : a = b := by omega
    rw [h2 (by omega)]
  | [], _ :: _, h, _ => h.elim
  | _ :: _, [], h, _ => h.elim
theorem ge_valFrom (b : Nat) : ∀ (ps qs : List Nat) (v v' : Nat), ge ps qs → v' ≤ v → qs.foldl (fun v d => v * b + d) v' ≤ ps.foldl (fun v d => v * b + d) v
  | [], [], _, _, _, h => h
  | a :: ps, c :: qs, v, v', h, hv => ge_valFrom b ps qs _ _ h.2 (Nat.add_le_add (Nat.mul_le_mul_right _ hv) h.1)
  | [], _ :: _, _, _, h, _ => h.elim
  | _ :: _, [], _, _, h, _ => h.elim
/-- The numbers of the shape: enough digits, and no more; within 16 bits. -/
theorem shape_facts (n w : Nat) (hw : wid w) (h0 : 1 ≤ n) (h1 : n ≤ 64) : (2 ^ w - 1) * shU n w < 2 ^ (w * shV n w) ∧ w * shV n w ≤ 16 ∧ 1 ≤ shV n w ∧ shU n w = n * (8 / w) ∧ (1 < shV n w → 2 ^ (w * (shV n w - 1)) ≤ (2 ^ w - 1) * shU n w) := by
  have h : ∀ m, m < 65 → 1 ≤ m → ∀ w ∈ [1, 2, 4, 8], (2 ^ w - 1) * shU m w < 2 ^ (w * shV m w) ∧ w * shV m w ≤ 16 ∧ 1 ≤ shV m w ∧ shU m w = m * (8 / w) ∧ (1 < shV m w → 2 ^ (w * (shV m w - 1)) ≤ (2 ^ w - 1) * shU m w) := by decide +kernel
  refine h n (by omega) h0 w ?_
  rcases hw with h | h | h | h <;> subst h <;> simp
/-- What is lacked, ps digits, says itself. -/
theorem lack_val (w : Nat) (hw : wid w) (xs : List UInt8) (h0 : 1 ≤ xs.length) (h1 : xs.length ≤ 64) :
    lk w (ofL w xs) * 2 ^ shL xs.length w < 65536 ∧ val (2 ^ w) ((ofL w [UInt8.ofNat (lk w (ofL w xs) * 2 ^ shL xs.length w / 256), UInt8.ofNat (lk w (ofL w xs) * 2 ^ shL xs.length w)]).take (shV xs.length w)) = lk w (ofL w xs) ∧ shV xs.length w ≤ 16 / w := by
  obtain ⟨f1, f2, f3, f4, _⟩ := shape_facts xs.length w hw h0 h1
  obtain ⟨V, hV⟩ : ∃ V, V = shV xs.length w := ⟨_, rfl⟩
  obtain ⟨L, hL⟩ : ∃ L, L = lk w (ofL w xs) := ⟨_, rfl⟩
  have hle : L ≤ (2 ^ w - 1) * shU xs.length w := by rw [hL, f4, ← ofL_length]; exact lk_le w _
  have e16 : 2 ^ (w * V) * 2 ^ (16 - V * w) = 65536 := by rw [← Nat.pow_add, Nat.mul_comm V w, show w * V + (16 - w * V) = 16 by rw [hV]; omega]
  have hlt : L * 2 ^ (16 - V * w) < 65536 := by
    rw [← e16]
    exact Nat.mul_lt_mul_of_pos_right (by rw [hV]; omega) (Nat.two_pow_pos _)
  have hv16 : V ≤ 16 / w := by
    have := wid_div hw
    rw [Nat.le_div_iff_mul_le (by omega), Nat.mul_comm, hV]
    exact f2
  unfold shL
  rw [← hV, ← hL]
  refine ⟨hlt, ?_, hv16⟩
  rw [ofL_two w hw _ hlt, ← List.map_take, List.take_range, Nat.min_eq_left hv16, val_take w 16 _ V (by rw [hV]; exact f2) hlt, Nat.mul_comm w V]
  exact Nat.mul_div_cancel _ (Nat.two_pow_pos _)
/-- Of two unlike rows of one length not every digit of all of the first is at least that of the second. -/
theorem not_ge (w : Nat) (hw : wid w) (xs ys : List UInt8) (hl : xs.length = ys.length) (h0 : 1 ≤ xs.length) (h1 : xs.length ≤ 64) (hne : xs ≠ ys) : ¬ ge (allL w xs) (allL w ys) := by
  intro h
  obtain ⟨h2, h3⟩ := ge_split _ _ _ _ (by rw [ofL_length, ofL_length, hl]) h
  obtain ⟨h4, h5⟩ := ge_lk w _ _ h2 (ofL_lt w xs)
  have h6 := ge_valFrom (2 ^ w) _ _ 0 0 h3 (Nat.le_refl _)
  have hx := (lack_val w hw xs h0 h1).2.1
  have hy := (lack_val w hw ys (by omega) (by omega)).2.1
  unfold val at hx hy
  rw [hx, hy] at h6
  exact hne (ofL_inj w hw xs ys hl (h5 (by omega)))
theorem allL_length (w : Nat) (hw : wid w) (xs : List UInt8) (h0 : 1 ≤ xs.length) (h1 : xs.length ≤ 64) : (allL w xs).length = shU xs.length w + shV xs.length w := by
  have h := lack_val w hw xs h0 h1
  obtain ⟨_, _, _, f4, _⟩ := shape_facts xs.length w hw h0 h1
  have hw8 := wid_div hw
  rw [allL, List.length_append, ofL_length, f4, List.length_take, ofL_two w hw _ h.1, List.length_map, List.length_range, Nat.min_eq_left h.2.2]
theorem ge_of_all : ∀ ps qs : List Nat, ps.length = qs.length → (∀ i, i < ps.length → qs.getD i 0 ≤ ps.getD i 0) → ge ps qs
  | [], [], _, _ => trivial
  | a :: ps, b :: qs, hl, h => ⟨by have := h 0 (by simp); simpa using this, ge_of_all ps qs (by simpa using hl) (fun i hi => by have := h (i + 1) (by simp; omega); simpa using this)⟩
  | [], _ :: _, hl, _ => by simp at hl
  | _ :: _, [], hl, _ => by simp at hl
/-- Some digit is less. -/
theorem some_less (w : Nat) (hw : wid w) (xs ys : List UInt8) (hl : xs.length = ys.length) (h0 : 1 ≤ xs.length) (h1 : xs.length ≤ 64) (hne : xs ≠ ys) : ∃ i, i < shU xs.length w + shV xs.length w ∧ (allL w xs).getD i 0 < (allL w ys).getD i 0 := by
  have e1 := allL_length w hw xs h0 h1
  have e2 := allL_length w hw ys (by omega) (by omega)
  apply Classical.byContradiction
  intro h
  refine not_ge w hw xs ys hl h0 h1 hne (ge_of_all _ _ (by rw [e1, e2, hl]) fun i hi => ?_)
  apply Classical.byContradiction
  intro h9
  exact h ⟨i, by rw [e1] at hi; exact hi, by omega⟩
/-- The digit k of a row. -/
theorem ofL_at (w : Nat) (hw : wid w) : ∀ (xs : List UInt8) (k : Nat), k < xs.length * (8 / w) → (ofL w xs)[k]? = some (dg w (xs.getD (w * k / 8) 0).toNat (w * k % 8 / w))
  | [], k, h => by simp at h
  | x :: xs, k, h => by
    have h8 := wid_div hw
    have e : ofL w (x :: xs) = ofB w x.toNat ++ ofL w xs := by simp [ofL]
    rw [e]
    have hc : ∀ q, w * q / 8 = q / (8 / w) ∧ w * q % 8 / w = q % (8 / w) := by
      intro q
      rcases hw with h | h | h | h <;> subst h <;> simp <;> omega
    rw [(hc k).1, (hc k).2]
    by_cases hk : k < 8 / w
    · rw [List.getElem?_append_left (by rw [ofB_length]; exact hk), Nat.div_eq_of_lt hk, Nat.mod_eq_of_lt hk]
      simp [ofB, hk]
    · rw [List.getElem?_append_right (by rw [ofB_length]; omega), ofB_length, ofL_at w hw xs (k - 8 / w) (by rw [List.length_cons, Nat.succ_mul] at h; omega), (hc (k - 8 / w)).1, (hc (k - 8 / w)).2]
      have h9 : 0 < 8 / w := by rcases hw with h | h | h | h <;> subst h <;> decide
      obtain ⟨j, hj⟩ : ∃ j, k = j + 8 / w := ⟨k - 8 / w, by omega⟩
      rw [hj, Nat.add_sub_cancel, Nat.add_div_right _ h9, Nat.add_mod_right]
      simp
theorem ofL_take (w : Nat) (hw : wid w) (xs : List UInt8) (k : Nat) (h : k < xs.length * (8 / w)) : (ofL w xs).take (k + 1) = (ofL w xs).take k ++ [dg w (xs.getD (w * k / 8) 0).toNat (w * k % 8 / w)] := by
  rw [List.take_add_one, ofL_at w hw xs k h]
  rfl
/-- The first i bits of a digit, and one more. -/
theorem bit_step (x o i : Nat) (h : o + i < 8) : (x / 2 ^ (8 - o - i) % 2 ^ i) * 2 + x / 2 ^ (7 - (o + i)) % 2 = x / 2 ^ (8 - o - (i + 1)) % 2 ^ (i + 1) := by
  have e1 : 8 - o - i = (7 - (o + i)) + 1 := by omega
  have e2 : 8 - o - (i + 1) = 7 - (o + i) := by omega
  rw [e1, e2, Nat.pow_succ 2 (7 - (o + i)), ← Nat.div_div_eq_div_mul, Nat.pow_succ, Nat.mul_comm (2 ^ i) 2, Nat.mod_mul]
  omega
theorem bit_all (w x o : Nat) (hw : wid w) (ho : o % w = 0) (h8 : o < 8) : x / 2 ^ (8 - o - w) % 2 ^ w = dg w x (o / w) := by
  unfold dg
  congr 3
  rcases hw with h | h | h | h <;> subst h <;> omega
end Go.Proofs.YtccnbepccajdoaaDoor.S7
