/-
  Texts put together: Wp1, Bits, Cel, Blk, Oct. No statement is proved here.
-/
import Derived.Test.YtkpfppiedadmbaaGreatDoorWo01
import Derived.Test.YtkpfppiedadmbaaGreatDoorRows
import Derived.WalkKit
import Derived.WalkSpells
import Derived.WalkLawsBesides
import Derived.Laws.AppendOwnNone
import Derived.Lib.Hide
import Derived.Below
import Derived.Laws.OwnMore
import Derived.Deep.Draws
import Derived.Laws.Rows
import Derived.Deep.WholeRow
import Derived.Deep.MidRow
import Derived.Laws.CopyOwn
import Derived.Deep.QuietTactic

/-
  One-time signatures with masks in plain words: addresses, sums with masks, chains, the sum of a leaf, a signature, what it stands for; a signature stands for its leaf. No statement is proved here.
-/
namespace Go.Proofs.YtkpfppiedadmbaaGreatDoor.S15
set_option linter.unusedSimpArgs false
set_option linter.unusedVariables false
set_option maxRecDepth 1024

/-- An address. -/
structure Ad where
  layer : Nat
  tree : Nat
  kind : Nat
  a : Nat
  b : Nat
  c : Nat
/-- An address as bytes, with a number. -/
def adB (A : Ad) (k : Nat) : List UInt8 := [putL A.layer 4, putL A.tree 8, putL A.kind 4, putL A.a 4, putL A.b 4, putL A.c 4, putL k 4].flatten
/-- A number as 32 bytes. -/
def b32 (k : UInt8) : List UInt8 := List.replicate 31 0 ++ [k]
def numL (k : UInt8) (key text : List UInt8) : List UInt8 := S2.sum [b32 k, key, text].flatten
def prfL (key text : List UInt8) : List UInt8 := numL 3 key text
def xr (xs ys : List UInt8) : List UInt8 := List.zipWith (· ^^^ ·) xs ys
/-- A sum with masks, and one of two. -/
def fL (seed : List UInt8) (A : Ad) (x : List UInt8) : List UInt8 := numL 0 (prfL seed (adB A 0)) (xr x (prfL seed (adB A 1)))
def hL (seed : List UInt8) (A : Ad) (x y : List UInt8) : List UInt8 := numL 1 (prfL seed (adB A 0)) (xr x (prfL seed (adB A 1)) ++ xr y (prfL seed (adB A 2)))
/-- x gone up by n steps from j on. -/
def upL (seed : List UInt8) (A : Ad) (i : Nat) : Nat → Nat → List UInt8 → List UInt8
  | _, 0, x => x
  | j, n + 1, x => upL seed A i (j + 1) n (fL seed { A with kind := 0, b := i, c := j } x)
/-- The secret of a chain. -/
def secL (secret : List UInt8) (A : Ad) (i : Nat) : List UInt8 := prfL (prfL secret (adB A 0)) (b32 (UInt8.ofNat i))
/-- Row by row. -/
def nextL (seed : List UInt8) (A : Ad) (g : Nat) : Nat → List (List UInt8) → List (List UInt8)
  | i, x :: y :: t => hL seed { A with kind := 1, b := g, c := i } x y :: nextL seed A g (i + 1) t
  | _, l => l
def leafS (seed : List UInt8) (A : Ad) : Nat → Nat → List (List UInt8) → List UInt8
  | 0, _, row => row.headD []
  | f + 1, g, row => if row.length ≤ 1 then row.headD [] else leafS seed A f (g + 1) (nextL seed A g 0 row)
/-- The sum of a leaf. -/
def endsL (secret seed : List UInt8) (A : Ad) : List (List UInt8) := (List.range 67).map fun i => upL seed A i 0 15 (secL secret A i)
def leafL (secret seed : List UInt8) (A : Ad) : List UInt8 := leafS seed A 7 0 (endsL secret seed A)
def sigRows (secret seed : List UInt8) (A : Ad) (ds : List Nat) : List (List UInt8) := (List.range 67).map fun i => upL seed A i 0 (ds.getD i 0) (secL secret A i)
def signL (secret seed : List UInt8) (A : Ad) (text : List UInt8) : List UInt8 := (sigRows secret seed A (S7.allL 4 text)).flatten
def standRows (seed : List UInt8) (A : Ad) (ds : List Nat) (sig : List UInt8) : List (List UInt8) := (List.range 67).map fun i => upL seed A i (ds.getD i 0) (15 - ds.getD i 0) ((sig.drop (32 * i)).take 32)
def standL (seed : List UInt8) (A : Ad) (text sig : List UInt8) : List UInt8 := leafS seed A 7 0 (standRows seed A (S7.allL 4 text) sig)

theorem outL_length (s : S2.St) : (S2.outL s).length = 32 := by
  simp [S2.outL, S2.St.list, putL_length]
theorem sum_len (xs : List UInt8) : (S2.sum xs).length = 32 := outL_length _
theorem num_len (k : UInt8) (key text : List UInt8) : (numL k key text).length = 32 := sum_len _
theorem up_len (seed : List UInt8) (A : Ad) (i : Nat) : ∀ (n j : Nat) (x : List UInt8), x.length = 32 → (upL seed A i j n x).length = 32
  | 0, _, x, h => h
  | n + 1, j, x, _ => up_len seed A i n (j + 1) _ (num_len _ _ _)
/-- Gone up in two goes is gone up in one. -/
theorem up_two (seed : List UInt8) (A : Ad) (i : Nat) : ∀ (n j m : Nat) (x : List UInt8), upL seed A i (j + n) m (upL seed A i j n x) = upL seed A i j (n + m) x
  | 0, j, m, x => by simp [upL]
  | n + 1, j, m, x => by
    have := up_two seed A i n (j + 1) m (fL seed { A with kind := 0, b := i, c := j } x)
    rw [show n + 1 + m = (n + m) + 1 by omega]
    simp only [upL]
    rw [show j + (n + 1) = j + 1 + n by omega]
    exact this
theorem flat_len : ∀ (rows : List (List UInt8)), (∀ r ∈ rows, r.length = 32) → rows.flatten.length = 32 * rows.length
  | [], _ => rfl
  | r :: rows, h => by
    have := flat_len rows fun x hx => h x (List.mem_cons_of_mem _ hx)
    have h1 := h r (List.mem_cons_self ..)
    simp only [List.flatten_cons, List.length_append, List.length_cons, this, h1]
    omega
/-- Rows of 32 bytes, put together, and cut again. -/
theorem flat_cut : ∀ (rows : List (List UInt8)), (∀ r ∈ rows, r.length = 32) → ∀ i, i < rows.length → (rows.flatten.drop (32 * i)).take 32 = rows.getD i []
  | [], _, i, hi => by simp at hi
  | r :: rows, h, 0, _ => by
    have h1 := h r (List.mem_cons_self ..)
    simp [List.take_append_of_le_length, h1]
  | r :: rows, h, i + 1, hi => by
    have h1 := h r (List.mem_cons_self ..)
    have := flat_cut rows (fun x hx => h x (List.mem_cons_of_mem _ hx)) i (by simpa using hi)
    rw [List.flatten_cons, show 32 * (i + 1) = r.length + 32 * i by omega, ← List.drop_drop, List.drop_left, this]
    simp
theorem sig_rows (secret seed : List UInt8) (A : Ad) (ds : List Nat) : ∀ r ∈ sigRows secret seed A ds, r.length = 32 := by
  intro r hr
  obtain ⟨i, _, rfl⟩ := List.mem_map.1 hr
  exact up_len _ _ _ _ _ _ (num_len _ _ _)
theorem sign_len (secret seed : List UInt8) (A : Ad) (text : List UInt8) : (signL secret seed A text).length = 2144 := by
  unfold signL
  rw [flat_len _ (sig_rows _ _ _ _)]
  simp [sigRows]
/-- A signature stands for its leaf. -/
theorem stands_leaf (secret seed : List UInt8) (A : Ad) (ds : List Nat) (hd : ∀ i, i < 67 → ds.getD i 0 ≤ 15) : standRows seed A ds (sigRows secret seed A ds).flatten = endsL secret seed A := by
  unfold standRows endsL
  refine List.map_congr_left fun i hi => ?_
  have hi' : i < 67 := by simpa using hi
  rw [flat_cut _ (sig_rows _ _ _ _) i (by simpa [sigRows] using hi')]
  have e : (sigRows secret seed A ds).getD i [] = upL seed A i 0 (ds.getD i 0) (secL secret A i) := by
    simp [sigRows, List.getD, hi']
  rw [e]
  have h1 := hd i hi'
  have := up_two seed A i (ds.getD i 0) 0 (15 - ds.getD i 0) (secL secret A i)
  rw [Nat.zero_add, show ds.getD i 0 + (15 - ds.getD i 0) = 15 by omega] at this
  exact this
theorem all_le {text : List UInt8} : ∀ i, (S7.allL 4 text).getD i 0 ≤ 15 := by
  intro i
  have h : ∀ d ∈ S7.allL 4 text, d < 2 ^ 4 := by
    intro d hd
    rcases List.mem_append.1 hd with h | h
    · exact S7.ofL_lt _ _ d h
    · exact S7.ofL_lt _ _ d (List.mem_of_mem_take h)
  rcases Nat.lt_or_ge i (S7.allL 4 text).length with hi | hi
  · have := h ((S7.allL 4 text)[i]) (List.getElem_mem hi)
    simp only [List.getD, List.getElem?_eq_getElem hi, Option.getD_some]
    omega
  · simp [List.getD, List.getElem?_eq_none hi]
theorem stand_sign (secret seed : List UInt8) (A : Ad) (text : List UInt8) : standL seed A text (signL secret seed A text) = leafL secret seed A := by
  unfold standL signL leafL
  rw [stands_leaf _ _ _ _ fun i _ => all_le i]
theorem next_len (seed : List UInt8) (A : Ad) (g : Nat) : ∀ (i : Nat) (l : List (List UInt8)), (nextL seed A g i l).length = (l.length + 1) / 2
  | _, [] => by simp [nextL]
  | _, [x] => by simp [nextL]
  | i, x :: y :: t => by
    simp only [nextL, List.length_cons, next_len seed A g (i + 1) t]
    omega
theorem next_rows (seed : List UInt8) (A : Ad) (g : Nat) : ∀ (i : Nat) (l : List (List UInt8)), (∀ r ∈ l, r.length = 32) → ∀ r ∈ nextL seed A g i l, r.length = 32
  | _, [], _ => by simp [nextL]
  | _, [x], h => by simpa [nextL] using h
  | i, x :: y :: t, h => by
    intro r hr
    simp only [nextL, List.mem_cons] at hr
    rcases hr with rfl | hr
    · exact num_len _ _ _
    · exact next_rows seed A g (i + 1) t (fun r hr => h r (by simp [hr])) r hr
theorem leafS_len (seed : List UInt8) (A : Ad) : ∀ (f g : Nat) (l : List (List UInt8)), 1 ≤ l.length → (∀ r ∈ l, r.length = 32) → (leafS seed A f g l).length = 32
  | 0, g, l, h1, h => by
    cases l with
    | nil => simp at h1
    | cons x t => exact h x (List.mem_cons_self ..)
  | f + 1, g, l, h1, h => by
    simp only [leafS]
    split
    · cases l with
      | nil => simp at h1
      | cons x t => exact h x (List.mem_cons_self ..)
    · exact leafS_len seed A f (g + 1) _ (by rw [next_len]; omega) (next_rows seed A g 0 l h)
end Go.Proofs.YtkpfppiedadmbaaGreatDoor.S15

/-
  Words of 32 bits as the walk spells them.
-/
namespace Go.Proofs.YtkpfppiedadmbaaGreatDoor.S2
set_option linter.unusedSimpArgs false
set_option linter.unusedVariables false
set_option maxRecDepth 1024
open Go.RowKit

theorem u32_lt (x : UInt32) : x.toNat < 4294967296 := x.toNat_lt
theorem u32_add (x y : UInt32) : IntKind.u32.wrap ((x.toNat : Int) + (y.toNat : Int)) = ((ad x y).toNat : Int) := by
  rw [IntKind.wrap_u32', ad, UInt32.toNat_add]; omega
theorem u32_sub (x y : UInt32) : IntKind.u32.wrap ((x.toNat : Int) - (y.toNat : Int)) = ((su x y).toNat : Int) := by
  have hx := u32_lt x
  have hy := u32_lt y
  rw [IntKind.wrap_u32', su, UInt32.toNat_sub]; omega
theorem u32_band (x y : UInt32) : bits .and .u32 (x.toNat : Int) (y.toNat : Int) = ((an x y).toNat : Int) := by
  rw [u32_and _ _ (by omega) (by have := u32_lt x; omega) (by omega) (by have := u32_lt y; omega)]; simp [an, xo]
theorem u32_bxor (x y : UInt32) : bits .xor .u32 (x.toNat : Int) (y.toNat : Int) = ((xo x y).toNat : Int) := by
  rw [u32_xor _ _ (by omega) (by have := u32_lt x; omega) (by omega) (by have := u32_lt y; omega)]; simp [an, xo]


theorem rot_nat (x n : Nat) (hx : x < 4294967296) (h0 : 0 < n) (h1 : n < 32) : (x / 2 ^ n) ||| (x * 2 ^ (32 - n) % 4294967296) = (x / 2 ^ n + x * 2 ^ (32 - n)) % 4294967296 := by
  obtain ⟨m, hm⟩ : ∃ m, m = 32 - n := ⟨_, rfl⟩
  have e32 : 2 ^ n * 2 ^ m = 4294967296 := by rw [← Nat.pow_add, show n + m = 32 by omega]
  have hp : 0 < 2 ^ n := Nat.two_pow_pos _
  have hq : 0 < 2 ^ m := Nat.two_pow_pos _
  rw [← hm]
  have e1 : x * 2 ^ m % 4294967296 = 2 ^ m * (x % 2 ^ n) := by rw [← e32, Nat.mul_mod_mul_right, Nat.mul_comm]
  have hlt : x / 2 ^ n < 2 ^ m := by
    rw [Nat.div_lt_iff_lt_mul hp, Nat.mul_comm, e32]; exact hx
  rw [e1, Nat.or_comm, ← Nat.two_pow_add_eq_or_of_lt hlt]
  have e2 : x * 2 ^ m = x / 2 ^ n * 4294967296 + 2 ^ m * (x % 2 ^ n) := by
    conv => lhs; rw [← Nat.div_add_mod x (2 ^ n)]
    rw [Nat.add_mul, ← e32, Nat.mul_comm (2 ^ n) (x / 2 ^ n), Nat.mul_assoc, Nat.mul_comm (x % 2 ^ n)]
  have h2 : 2 ^ m * (x % 2 ^ n) + x / 2 ^ n < 4294967296 := by
    have h3 : 2 ^ m * (x % 2 ^ n + 1) ≤ 2 ^ m * 2 ^ n := Nat.mul_le_mul_left _ (Nat.mod_lt _ hp)
    rw [Nat.mul_comm (2 ^ m) (2 ^ n), e32, Nat.mul_add] at h3
    omega
  rw [e2]
  omega
theorem rotr_toNat (x : UInt32) (n : Nat) : (rotr x n).toNat = (x.toNat / 2 ^ n + x.toNat * 2 ^ (32 - n)) % 4294967296 := by simp [rotr]
theorem rot_or (x : UInt32) (n : Nat) (h0 : 0 < n) (h1 : n < 32) : bits .or .u32 ((x.toNat : Int) / 2 ^ n) ((x.toNat : Int) * 2 ^ (32 - n) % 4294967296) = ((rotr x n).toNat : Int) := by
  have hx := u32_lt x
  have e1 : (x.toNat : Int) / 2 ^ n = ((x.toNat / 2 ^ n : Nat) : Int) := by simp
  have e2 : (x.toNat : Int) * 2 ^ (32 - n) % 4294967296 = ((x.toNat * 2 ^ (32 - n) % 4294967296 : Nat) : Int) := by simp
  have hl : x.toNat / 2 ^ n < 4294967296 := Nat.lt_of_le_of_lt (Nat.div_le_self _ _) hx
  rw [e1, e2, u32_or_nat _ _ hl (by omega), rot_nat _ _ hx h0 h1, rotr_toNat]
theorem rot_or' (x : UInt32) (n : Nat) (h0 : 0 < n) (h1 : n < 32) : bits .or .u32 ((x.toNat : Int) * 2 ^ (32 - n) % 4294967296) ((x.toNat : Int) / 2 ^ n) = ((rotr x n).toNat : Int) := by
  have hx := u32_lt x
  have e1 : (x.toNat : Int) / 2 ^ n = ((x.toNat / 2 ^ n : Nat) : Int) := by simp
  have e2 : (x.toNat : Int) * 2 ^ (32 - n) % 4294967296 = ((x.toNat * 2 ^ (32 - n) % 4294967296 : Nat) : Int) := by simp
  have hl : x.toNat / 2 ^ n < 4294967296 := Nat.lt_of_le_of_lt (Nat.div_le_self _ _) hx
  rw [e1, e2, u32_or_nat _ _ (by omega) hl, Nat.or_comm, rot_nat _ _ hx h0 h1, rotr_toNat]
theorem ret_i {k : IntKind} {a b : Int} (h : a = b) : Ending.returned (.int k a) = .returned (.int k b) := by rw [h]

theorem rrot_any (x : UInt32) (z : Int) (w : World) (h0 : 0 < z) (h1 : z < 32) :
    Calls Tryz.prog 114 #[.int .u32 (x.toNat : Int), .int .u32 z] w fun e w' => e = .returned (.int .u32 ((rotr x z.toNat).toNat : Int)) ∧ w = w' := by
  obtain ⟨n, rfl⟩ := Int.eq_ofNat_of_zero_le (by omega : 0 ≤ z)
  have h0 : 0 < n := by omega
  have h1 : n < 32 := by omega
  go_enter Tryz.func114, Tryz.ntmps114
  go_wp2
  go_ret
  exact ⟨ret_i (rot_or x n h0 h1), rfl⟩
theorem neg_and (n : Nat) (h0 : 0 < n) (h1 : n < 32) : bits .and .u64 (IntKind.u64.wrap (-(n : Int))) 31 = ((32 - n : Nat) : Int) := by
  have e : IntKind.u64.wrap (-(n : Int)) = ((18446744073709551616 - n : Nat) : Int) := by rw [IntKind.wrap_u64]; omega
  rw [e, u64_and _ _ (by omega) (by omega) (by omega) (by omega), Int.toNat_natCast]
  show ((_ &&& (2 ^ 5 - 1) : Nat) : Int) = _
  rw [Nat.and_two_pow_sub_one_eq_mod]
  omega
theorem rol_any (x : UInt32) (n : Nat) (w : World) (h0 : 0 < n) (h1 : n < 32) :
    Calls Tryz.prog 128 #[.int .u32 (x.toNat : Int), .int .i64 (-(n : Int))] w fun e w' => e = .returned (.int .u32 ((rotr x n).toNat : Int)) ∧ w = w' := by
  have hb := neg_and n h0 h1
  have hn : ((32 - n : Nat) : Int) = 32 - (n : Int) := by omega
  have ht : (32 - (n : Int)).toNat = 32 - n := by omega
  have ht2 : (32 - (32 - (n : Int))) = n := by omega
  have i0 : (0 : Int) < n := by omega
  have i1 : (n : Int) < 32 := by omega
  rw [hn] at hb
  clear hn
  go_enter Tryz.func128, Tryz.ntmps128
  go_wp2
  go_ret
  exact ⟨ret_i (rot_or' x n h0 h1), rfl⟩
theorem right_any (x : UInt32) (z : Int) (w : World) (h0 : 0 < z) (h1 : z < 32) :
    Calls Tryz.prog 127 #[.int .u32 (x.toNat : Int), .int .i64 z] w fun e w' => e = .returned (.int .u32 ((rotr x z.toNat).toNat : Int)) ∧ w = w' := by
  obtain ⟨n, rfl⟩ := Int.eq_ofNat_of_zero_le (by omega : 0 ≤ z)
  have g0 : 0 < n := by omega
  have g1 : n < 32 := by omega
  go_enter Tryz.func127, Tryz.ntmps127
  go_wp2_with (go_at_call 128; refine (rol_any x n _ g0 g1).mono ?_; rintro e w' ⟨rfl, rfl⟩)
  go_ret
  exact ⟨rfl, rfl⟩

theorem u32_shr3 (x : UInt32) : (x.toNat : Int) / 8 = ((shr x 3).toNat : Int) := by have := u32_lt x; simp [shr]; omega
theorem u32_shr10 (x : UInt32) : (x.toNat : Int) / 1024 = ((shr x 10).toNat : Int) := by have := u32_lt x; simp [shr]; omega

section
attribute [local go_sem] u32_add u32_sub u32_band u32_bxor u32_shr3 u32_shr10
theorem mixLate_any (x : UInt32) (w : World) :
    Calls Tryz.prog 125 #[.int .u32 (x.toNat : Int)] w fun e w' => e = .returned (.int .u32 ((smL x).toNat : Int)) ∧ w = w' := by
  go_enter Tryz.func125, Tryz.ntmps125
  go_wp2_with (go_at_call 127; refine (right_any x _ _ (by omega) (by omega)).mono ?_; rintro e w' ⟨rfl, rfl⟩)
  go_ret
  exact ⟨rfl, rfl⟩
theorem mixEarly_any (x : UInt32) (w : World) :
    Calls Tryz.prog 126 #[.int .u32 (x.toNat : Int)] w fun e w' => e = .returned (.int .u32 ((smE x).toNat : Int)) ∧ w = w' := by
  go_enter Tryz.func126, Tryz.ntmps126
  go_wp2_with (go_at_call 127; refine (right_any x _ _ (by omega) (by omega)).mono ?_; rintro e w' ⟨rfl, rfl⟩)
  go_ret
  exact ⟨rfl, rfl⟩
theorem mixA_any (x : UInt32) (w : World) :
    Calls Tryz.prog 124 #[.int .u32 (x.toNat : Int)] w fun e w' => e = .returned (.int .u32 ((bgA x).toNat : Int)) ∧ w = w' := by
  go_enter Tryz.func124, Tryz.ntmps124
  go_wp2_with (go_at_call 127; refine (right_any x _ _ (by omega) (by omega)).mono ?_; rintro e w' ⟨rfl, rfl⟩)
  go_ret
  exact ⟨rfl, rfl⟩
theorem mixE_any (x : UInt32) (w : World) :
    Calls Tryz.prog 123 #[.int .u32 (x.toNat : Int)] w fun e w' => e = .returned (.int .u32 ((bgE x).toNat : Int)) ∧ w = w' := by
  go_enter Tryz.func123, Tryz.ntmps123
  go_wp2_with (go_at_call 127; refine (right_any x _ _ (by omega) (by omega)).mono ?_; rintro e w' ⟨rfl, rfl⟩)
  go_ret
  exact ⟨rfl, rfl⟩
end
end Go.Proofs.YtkpfppiedadmbaaGreatDoor.S2

/-
  Blocks of memory that are known whole. Plain lemmas, no statement is proved here.
-/
namespace Go.Proofs.YtkpfppiedadmbaaGreatDoor
set_option linter.unusedSimpArgs false
set_option linter.unusedVariables false
set_option maxRecDepth 1024
open Go.RowKit

/-- Block g is just these cells. -/
def Bk (w : World) (g : Nat) (t : TypeId) (cs : Array Value) : Prop := w.heap[g]? = some (.cells cs t (0, 0))
section
variable {w w' : World} {g : Nat} {t : TypeId} {cs : Array Value}
theorem Bk.lt (h : Bk w g t cs) : g < w.heap.size := by
  rcases Nat.lt_or_ge g w.heap.size with hlt | hge
  · exact hlt
  · unfold Bk at h; rw [Array.getElem?_eq_none hge] at h; cases h
theorem Bk.cell (h : Bk w g t cs) (i : Nat) : w.cell? ⟨g, i, none⟩ = cs[i]? := cell_of_row w g i cs t (0, 0) h
theorem Bk.frozen (h : Bk w g t cs) (i : Nat) : w.frozen? ⟨g, i, none⟩ = false := by
  unfold Bk at h
  simp [World.frozen?, h]
theorem Bk.new (w : World) (t : TypeId) (cs : Array Value) : Bk (w.alloc (.cells cs t)) w.heap.size t cs := heap_alloc_new w _
theorem Bk.newAt (w : World) (t : TypeId) (cs : Array Value) (b : Nat) (h : w.heap.size = b) : Bk (w.alloc (.cells cs t)) b t cs := by subst h; exact heap_alloc_new w _
theorem Bk.drewN (h : Bk w g t cs) (n : Nat) : Bk (w.drewN n) g t cs := h
theorem Bk.drew (h : Bk w g t cs) : Bk w.drew g t cs := h
theorem Bk.alloc (h : Bk w g t cs) (o : Obj) : Bk (w.alloc o) g t cs := (Below.heap_alloc w o g h.lt).trans h
theorem Bk.put (h : Bk w g t cs) (i : Nat) (u : Value) : Bk (w.setCell ⟨g, i, none⟩ u) g t (cs.setIfInBounds i u) := by
  unfold Bk at h ⊢
  simp [World.setCell, Array.getElem?_modify, h]
theorem Bk.far (h : Bk w g t cs) {p : Addr} (hp : g ≠ p.block) (u : Value) : Bk (w.setCell p u) g t cs := (Below.heap_setCell w p u g hp).trans h
theorem Bk.below {B : Nat} (h : Bk w g t cs) (hb : Below B w w') (hg : g < B) : Bk w' g t cs := (hb.block g hg).trans h
theorem Bk.only {row : Option Nat} (h : Bk w g t cs) (hb : w.grownBy w' row) (hg : some g ≠ row) : Bk w' g t cs := (hb.block g h.lt hg).trans h
end
theorem below_drewN {B : Nat} {a w : World} (h : Below B a w) (n : Nat) : Below B a (w.drewN n) := ⟨h.os, h.tape, h.output, h.size, h.block⟩
theorem only_drewN {a w : World} {row : Option Nat} (h : a.grownBy w row) (n : Nat) : a.grownBy (w.drewN n) row := ⟨h.os, h.tape, h.output, h.size, h.block⟩
theorem only_alloc {a w : World} {row : Option Nat} (h : a.grownBy w row) (o : Obj) : a.grownBy (w.alloc o) row :=
  ⟨h.os, h.tape, h.output, Nat.le_trans h.size (by simp), fun i hi hne => (Below.heap_alloc w o i (Nat.lt_of_lt_of_le hi h.size)).trans (h.block i hi hne)⟩
theorem only_put {a w : World} {g : Nat} (h : a.grownBy w (some g)) {p : Addr} (hp : p.block = g ∨ a.heap.size ≤ p.block) (u : Value) : a.grownBy (w.setCell p u) (some g) :=
  ⟨h.os, h.tape, h.output, by simpa [World.setCell] using h.size, fun i hi hne => (Below.heap_setCell w p u i (by
    rintro rfl
    rcases hp with hp | hp
    · exact hne (by rw [hp])
    · omega)).trans (h.block i hi hne)⟩
theorem only_below {a w w' : World} {row : Option Nat} (h : a.grownBy w row) (hb : Below w.heap.size w w') : a.grownBy w' row :=
  ⟨hb.os.trans h.os, hb.tape.trans h.tape, hb.output.trans h.output, Nat.le_trans h.size hb.size, fun i hi hne => (hb.block i (Nat.lt_of_lt_of_le hi h.size)).trans (h.block i hi hne)⟩
theorem only_trans {a w w' : World} {g : Nat} (h : a.grownBy w (some g)) (hb : w.grownBy w' (some g)) : a.grownBy w' (some g) :=
  ⟨hb.os.trans h.os, hb.tape.trans h.tape, hb.output.trans h.output, Nat.le_trans h.size hb.size, fun i hi hne => (hb.block i (Nat.lt_of_lt_of_le hi h.size) hne).trans (h.block i hi hne)⟩
/-- What alone turned is new to the world of before. -/
theorem below_only {a w w' : World} {g : Nat} {B : Nat} (h : Below B a w) (hb : w.grownBy w' (some g)) (hg : B ≤ g) (hs : B ≤ w.heap.size) : Below B a w' :=
  ⟨hb.os.trans h.os, hb.tape.trans h.tape, hb.output.trans h.output, Nat.le_trans h.size hb.size, fun i hi => (hb.block i (by omega) (by rintro e; injection e with e; omega)).trans (h.block i hi)⟩

theorem Bk.row {w : World} {g : Nat} {t : TypeId} {cs : Array Value} (h : Bk w g t cs) (cs' : Array Value) : Bk (w.setRow g cs') g t cs' := setRow_heap w g cs cs' t (0, 0) h
theorem Bk.rowFar {w : World} {g g' : Nat} {t : TypeId} {cs : Array Value} (h : Bk w g t cs) (hne : g ≠ g') (cs' : Array Value) : Bk (w.setRow g' cs') g t cs := (setRow_other w g' g cs' hne).trans h
theorem Bk.range {w : World} {g : Nat} {t : TypeId} {L M R : List Value} (h : Bk w g t (L ++ M ++ R).toArray) : w.rangeAt g L.length M := fun j v hv => by
  have hj : j < M.length := (List.getElem?_eq_some_iff.1 hv).1
  rw [h.cell, List.getElem?_toArray, List.append_assoc, List.getElem?_append_right (by omega), List.getElem?_append_left (by omega), ← hv]
  congr 1
  omega
theorem Bk.there {w : World} {g : Nat} {t : TypeId} {cs : Array Value} (h : Bk w g t cs) (o n : Nat) (hn : o + n ≤ cs.size) : w.there g o n := fun j hj =>
  ⟨by rw [h.cell, Array.getElem?_eq_getElem (by omega)]; rfl, h.frozen _⟩
theorem Bk.puts {g : Nat} {t : TypeId} : ∀ (vs L M R : List Value) (w : World), Bk w g t (L ++ M ++ R).toArray → M.length = vs.length → Bk (w.setCells g L.length vs) g t (L ++ vs ++ R).toArray
  | [], L, M, R, w, h, hl => by
    obtain rfl : M = [] := List.eq_nil_of_length_eq_zero hl
    exact h
  | v :: vs, L, [], R, w, h, hl => by simp at hl
  | v :: vs, L, m :: M, R, w, h, hl => by
    rw [World.setCells]
    have h1 := h.put L.length v
    have e : (L ++ m :: M ++ R).toArray.setIfInBounds L.length v = ((L ++ [v]) ++ M ++ R).toArray := by
      simp [List.set_append_right]
    rw [e] at h1
    have h2 := Bk.puts vs (L ++ [v]) M R _ h1 (by simpa using hl)
    simpa using h2
theorem quiet_l {P : Program} {f : FuncId} {args : Array Value} {w : World} {n : Nat} {v : Value} (h : Calls P f args (w.drewN n) fun e w' => e = .returned v ∧ w.drewN n = w') :
    Calls P f args (w.drewN n) fun e w'' => e = .returned v ∧ ∃ m, w'' = w.drewN m := h.mono fun _ _ h => ⟨h.1, n, h.2.symm⟩
theorem quiet_al {P : Program} {f : FuncId} {args : Array Value} {w : World} {a n : Nat} {v : Value} (h : Calls P f args (w.drewN (a + n)) fun e w' => e = .returned v ∧ w.drewN (a + n) = w') :
    Calls P f args (w.drewN (a + n)) fun e w'' => e = .returned v ∧ ∃ m, w'' = w.drewN (a + m) := h.mono fun _ _ h => ⟨h.1, n, h.2.symm⟩
end Go.Proofs.YtkpfppiedadmbaaGreatDoor

/-
  Bytes that lie in a block that is known whole. Plain lemmas, no statement is proved here.
-/
namespace Go.Proofs.YtkpfppiedadmbaaGreatDoor
set_option linter.unusedSimpArgs false
set_option linter.unusedVariables false
set_option maxRecDepth 1024
open Go.RowKit

/-- Bytes that lie in a block. -/
theorem Rd.of_bk {w : World} {g : Nat} {t : TypeId} {cs : Array Value} (h : Bk w g t cs) {off n c : Nat} {ys : List UInt8} (hl : ys.length = n) (hc : n ≤ c) (hm : c ≤ maxLen)
    (hcell : ∀ j, j < n → cs[off + j]? = some (.int .u8 ((ys.getD j 0).toNat : Int))) : Rd w (some ⟨g, off, none⟩) n c ys :=
  ⟨hl, hc, hm, (fun e => by cases e), fun _ => ⟨g, off, rfl, h.lt, fun j hj => (h.cell _).trans (hcell j hj)⟩⟩
theorem bv_getElem? (xs : List UInt8) (i : Nat) (h : i < xs.length) : (bv xs).toArray[i]? = some (.int .u8 ((xs.getD i 0).toNat : Int)) := by
  simp [bv, h, List.getD]
end Go.Proofs.YtkpfppiedadmbaaGreatDoor

/-
  What the calls of package octet do: numbers as bytes, and rows of bytes.
-/
namespace Go.Proofs.YtkpfppiedadmbaaGreatDoor
set_option linter.unusedSimpArgs false
set_option linter.unusedVariables false
set_option maxRecDepth 1024
open Go.RowKit

theorem put_step (k n V : Nat) (hk : 0 < k) (hn : k ≤ n) :
    (bv (List.replicate k 0 ++ putL V (n - k))).set (k - 1) (.int .u8 ((V : Int) / 256 ^ (n - k) % 256)) = bv (List.replicate (k - 1) 0 ++ putL V (n - (k - 1))) := by
  obtain ⟨k, rfl⟩ : ∃ m, k = m + 1 := ⟨k - 1, by omega⟩
  have e : n - (k + 1 - 1) = (n - (k + 1)) + 1 := by omega
  have hv : ((V : Int) / 256 ^ (n - (k + 1)) % 256) = ((UInt8.ofNat (V / 256 ^ (n - (k + 1)))).toNat : Int) := by simp
  rw [hv, bv_set, e, putL]
  congr 1
  rw [show k + 1 - 1 = k from rfl, List.replicate_succ', List.append_assoc, List.set_append_right _ _ (by simp)]
  simp

theorem put_next (k n V : Nat) (hk : 0 < k) (hn : k ≤ n) : Value.int .u64 ((V : Int) / 256 ^ (n - k) / 256) = .int .u64 ((V / 256 ^ (n - (k - 1)) : Nat) : Int) := by
  have e : n - (k - 1) = (n - k) + 1 := by omega
  rw [e, Nat.pow_succ, ← Nat.div_div_eq_div_mul]
  simp

/-- octet.Put, n in 0 to 8: n bytes in new memory. -/
theorem put_any (V n : Nat) (w : World) (hn : n ≤ 8) (hV : V < 18446744073709551616) :
    Calls Tryz.prog 27 #[.int .u64 (V : Int), .int .i64 (n : Int)] w (New w.heap.size w (putL V n)) := by
  obtain ⟨i0, hi, hz0, hz1, hz2⟩ := info_parts Tryz.infoU8
  go_enter Tryz.func27, Tryz.ntmps27
  go_wp2_with (at_make; refine wpList_make_full _ rfl _ _ 24 rfl w.heap.size 5 i0 (.int .u8 0) 1 Tryz.underlying24 hi hz0 hz1 _ _ _ _ n rfl rfl rfl rfl ?b2 ?b3 (Nat.le_refl _) ?_)
  case b2 => rw [hz2]; omega
  case b3 => unfold maxLen; omega
  intro w0 hown0 hgrow0
  rw [bv_zero] at hown0
  have hb0 : Below w.heap.size w w0 := (Below.refl _ _).grown hgrow0 (Nat.le_refl _) (fun k h => by cases h)
  clear hgrow0
  go_wp2
  go_loopw [0, 6] (fun v i wr => ∃ k : Nat, k ≤ n ∧ i = .int .i64 ((k : Int) - 1) ∧ v = .int .u64 ((V / 256 ^ (n - k) : Nat) : Int) ∧
      wr.ownsRow w.heap.size 5 1 (.slice (some ⟨w.heap.size, 0, none⟩) n n) n (bv (List.replicate k 0 ++ putL V (n - k))) ∧ Below w.heap.size w wr)
    (fun _ i _ => (intOf i + 1).toNat)
  case atStart => exact ⟨n, Nat.le_refl _, rfl, by simp, by simpa [putL] using hown0, hb0⟩
  case round =>
    obtain ⟨k, hk, rfl, rfl, hown, hbel⟩ := hrel
    by_cases hk0 : 0 < k
    · have hc := hown.cellAt (k - 1) (by omega)
      have hf := hown.frozenAt (k - 1)
      have hs := hown.stored (k - 1)
      rw [bv_at _ _ (by simp [putL_length]; omega)] at hc
      go_wp2
      go_roundw
      case rel =>
        exact ⟨k - 1, by omega, by go_num, put_next k n V hk0 hk, by rw [← put_step k n V hk0 hk]; exact (hs _).1, hbel.setCell (Nat.le_refl _) _⟩
      case measure => simp [intOf]; omega
    · go_wp2
      go_ret
      obtain rfl : k = 0 := by omega
      exact ⟨_, _, _, rfl, by simpa using hown, hbel⟩

theorem put_none (V n : Int) (w : World) (hn : n < 0 ∨ 8 < n) :
    Calls Tryz.prog 27 #[.int .u64 V, .int .i64 n] w fun e w' => e = .returned (.slice none 0 0) ∧ w = w' := by
  rcases hn with hn | hn
  · go_enter Tryz.func27, Tryz.ntmps27
    go_wp2
    go_ret
    exact ⟨rfl, rfl⟩
  · have h0 : ¬ n < 0 := by omega
    go_enter Tryz.func27, Tryz.ntmps27
    go_wp2
    go_ret
    exact ⟨rfl, rfl⟩

theorem get_long (A : Option Addr) (n c : Nat) (w : World) (hn : 8 < n) (hm : n ≤ maxLen) :
    Calls Tryz.prog 43 #[.slice A n c] w fun e w' => e = .returned (.tuple #[.int .u64 0, .bool false]) ∧ w = w' := by
  unfold maxLen at hm
  go_enter Tryz.func43, Tryz.ntmps43
  go_wp2
  go_ret2
  exact ⟨rfl, rfl⟩

theorem get_step (xs : List UInt8) (k : Nat) (hk : k < xs.length) (h8 : k < 8) :
    bits .or .u64 (IntKind.u64.wrap ((getL (xs.take k) : Nat) * 256)) (IntKind.u64.wrap ((xs[k]?.getD 0).toNat : Int)) = (getL (xs.take (k + 1)) : Nat) := by
  have hg := getL_lt (xs.take k)
  rw [List.length_take, Nat.min_eq_left (by omega)] at hg
  have h7 : 256 ^ k ≤ 256 ^ 7 := Nat.pow_le_pow_right (by omega) (by omega)
  have hc := (xs[k]'hk).toNat_lt
  have e1 : IntKind.u64.wrap (((getL (xs.take k) : Nat) : Int) * 256) = ((getL (xs.take k) * 256 : Nat) : Int) := by
    rw [IntKind.wrap_u64]; omega
  have e2 : IntKind.u64.wrap ((xs[k]?.getD 0).toNat : Int) = (((xs[k]'hk).toNat : Nat) : Int) := by
    rw [IntKind.wrap_u64, List.getElem?_eq_getElem hk]; simp only [Option.getD_some]; omega
  rw [e1, e2, u64_or_nat _ _ (by omega) (by omega), nat_join 8 _ _ (by omega) (by omega), List.take_succ_eq_append_getElem hk, getL_snoc]

theorem get_any (A : Option Addr) (n c : Nat) (xs : List UInt8) (w : World) (hn : n ≤ 8) (h : Rd w A n c xs) :
    Calls Tryz.prog 43 #[.slice A n c] w fun e w' => e = .returned (.tuple #[.int .u64 (getL xs : Nat), .bool true]) ∧ w = w' := by
  go_enter Tryz.func43, Tryz.ntmps43
  go_wp2
  go_loop [4, 12] (fun v i => ∃ k : Nat, k ≤ n ∧ i = .int .i64 k ∧ v = .int .u64 (getL (xs.take k) : Nat)) (fun _ i => n - (intOf i).toNat)
  case atStart => exact ⟨0, Nat.zero_le _, rfl, rfl⟩
  case round =>
    obtain ⟨k, hk, rfl, rfl⟩ := hrel
    by_cases hlt : k < n
    · obtain ⟨b, off, rfl, hb, hcell⟩ := h.at_ (by omega)
      have hc := hcell k hlt
      clear hcell
      have hg := getL_lt (xs.take k)
      go_wp2
      go_round
      case rel =>
        exact ⟨k + 1, by omega, by go_num, by rw [get_step xs k (by have := h.len; omega) (by omega)]⟩
      case measure => simp [intOf]; omega
    · obtain rfl : k = n := by omega
      go_wp2
      go_ret2
      have e := h.len
      exact ⟨by rw [List.take_of_length_le (by omega)]; rfl, rfl⟩
end Go.Proofs.YtkpfppiedadmbaaGreatDoor
