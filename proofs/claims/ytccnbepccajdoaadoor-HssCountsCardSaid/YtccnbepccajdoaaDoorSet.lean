/-
  Sets of one-time signatures and of trees in plain words; what the calls of package sets are to do, as one structure. No statement is proved here.
-/
import Derived.Test.YtccnbepccajdoaaDoorDigW2
namespace Go.Proofs.YtccnbepccajdoaaDoor.S8
set_option linter.unusedSimpArgs false
set_option linter.unusedVariables false
open Go.RowKit S7

/-- The bytes of the sum i. -/
def szN (i : Nat) : Nat := if i % 2 = 1 then 24 else 32
theorem szN_cases (i : Nat) : szN i = 24 ∨ szN i = 32 := by unfold szN; split <;> simp
def okO (c : Nat) : Bool := decide (1 ≤ c) && decide (c ≤ 16)
def oI (c : Nat) : Nat := (c - 1) / 4
def oK (c : Nat) : Nat := oI c / 2
def oN (c : Nat) : Nat := szN (oI c)
def oW (c : Nat) : Nat := pkW ((c - 1) % 4)
def oP (c : Nat) : Nat := shU (oN c) (oW c) + shV (oN c) (oW c)
def oS (c : Nat) : Nat := shL (oN c) (oW c)
def otsV (a b c d e f : Int) : Value := .agg #[.int .u32 a, .int .i64 b, .int .i64 c, .int .i64 d, .int .i64 e, .int .i64 f]
/-- The set of one-time signatures of a code; the answer's code. -/
def otsA (c : Nat) : Value := if okO c = true then otsV c (oK c) (oN c) (oW c) (oP c) (oS c) else otsV 0 0 0 0 0 0
def otsE (c : Nat) : Nat := if okO c = true then 0 else 4
def okT (c : Nat) : Bool := (decide (5 ≤ c) && decide (c ≤ 24)) || (decide (4026531841 ≤ c) && decide (c ≤ 4026531856))
def tI (c : Nat) : Nat := if c ≤ 24 then (c - 5) / 5 else (c - 4026531841) / 4
def tK (c : Nat) : Nat := tI c / 2
def tN (c : Nat) : Nat := szN (tI c)
def tH (c : Nat) : Nat := if c ≤ 24 then 5 * (1 + (c - 5) % 5) else 1 + (c - 4026531841) % 4
def treeV (a b c d : Int) : Value := .agg #[.int .u32 a, .int .i64 b, .int .i64 c, .int .i64 d]
def treeA (c : Nat) : Value := if okT c = true then treeV c (tK c) (tN c) (tH c) else treeV 0 0 0 0
def treeE (c : Nat) : Nat := if okT c = true then 0 else 4
/-- How many leaves a tree of that height has. -/
def lvs (h : Int) : Nat := if 1 ≤ h ∧ h ≤ 25 then 2 ^ h.toNat else 0
def otsL : List Nat := (List.range 16).map (· + 1)
def treeL : List Nat := (List.range 20).map (· + 5) ++ (List.range 16).map (· + 4026531841)
/-- The slice value of address A, length n and capacity c reads as the numbers xs, of 32 bits each. -/
structure Ru (w : World) (A : Option Addr) (n c : Nat) (xs : List Nat) : Prop where
  len : xs.length = n
  cap : n ≤ c
  max : c ≤ maxLen
  at_ : 0 < n → ∃ b off, A = some ⟨b, off, none⟩ ∧ b < w.heap.size ∧ ∀ j, j < n → w.cell? ⟨b, off + j, none⟩ = some (.int .u32 ((xs.getD j 0 : Nat) : Int))
theorem Ru.below {w w' : World} {A : Option Addr} {n c : Nat} {xs : List Nat} (h : Ru w A n c xs) (hb : Below w.heap.size w w') : Ru w' A n c xs :=
  ⟨h.len, h.cap, h.max, fun hn => by
    obtain ⟨b, off, e, hbl, hc⟩ := h.at_ hn
    exact ⟨b, off, e, Nat.lt_of_lt_of_le hbl hb.size, fun j hj => (hb.cell hbl).trans (hc j hj)⟩⟩
/-- What a call gives: numbers of 32 bits. -/
def GivesU (B : Nat) (w : World) (xs : List Nat) (e : Ending) (w' : World) : Prop := ∃ (A : Option Addr) (c : Nat), e = .returned (.slice A xs.length c) ∧ Ru w' A xs.length c xs ∧ Below B w w'
/-- What the calls of package sets do, in a world that holds what they read. -/
structure SC where
  ok : World → Prop
  bel : ∀ {w w' : World}, ok w → Below w.heap.size w w' → ok w'
  ots : ∀ (c : Nat) (W : World), c < 4294967296 → ok W → Calls Tryd.prog 40 #[.int .u32 (c : Int)] W fun e w' => e = .returned (.tuple #[otsA c, .int .i64 (otsE c : Int)]) ∧ Below W.heap.size W w'
  tree : ∀ (c : Nat) (W : World), c < 4294967296 → ok W → Calls Tryd.prog 31 #[.int .u32 (c : Int)] W fun e w' => e = .returned (.tuple #[treeA c, .int .i64 (treeE c : Int)]) ∧ Below W.heap.size W w'
  fit : ∀ (a b c d e f a' b' c' d' : Int) (W : World), ok W → Calls Tryd.prog 27 #[otsV a b c d e f, treeV a' b' c' d'] W fun e w' => e = .returned (.bool (b == b' && c == c')) ∧ Below W.heap.size W w'
  leaves : ∀ (a b c h : Int) (W : World), ok W → Calls Tryd.prog 18 #[treeV a b c h] W fun e w' => e = .returned (.int .u64 (lvs h : Int)) ∧ Below W.heap.size W w'
/-- Plain facts. -/
theorem oW_wid (c : Nat) : wid (oW c) := pk_wid _
theorem oP_small : ∀ c, okO c = true → oP c ≤ 265 ∧ oS c ≤ 16 ∧ oP c = shU (oN c) (oW c) + shV (oN c) (oW c) := by
  have h : ∀ c ∈ List.range 17, okO c = true → oP c ≤ 265 ∧ oS c ≤ 16 := by decide +kernel
  intro c hc
  have h9 : c < 17 := by simp [okO] at hc; omega
  have := h c (by simpa using h9) hc
  exact ⟨this.1, this.2, rfl⟩
end Go.Proofs.YtccnbepccajdoaaDoor.S8
