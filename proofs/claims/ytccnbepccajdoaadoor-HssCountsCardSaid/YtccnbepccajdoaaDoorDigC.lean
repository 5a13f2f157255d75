/-
  What the calls of package digits are to do, as one structure; words for them. No statement is proved here.
-/
import Derived.Test.YtccnbepccajdoaaDoorDig
import Derived.Test.YtccnbepccajdoaaDoorInt
import Derived.Lib.Hide
import Derived.OwnWalk
namespace Go.Proofs.YtccnbepccajdoaaDoor.S7
set_option linter.unusedSimpArgs false
set_option linter.unusedVariables false
set_option maxRecDepth 1024
open Go.RowKit

def mayB (w : Int) : Bool := w == 1 || w == 2 || w == 4 || w == 8
theorem wid_of {w : Int} (h : mayB w = true) : ∃ v : Nat, w = (v : Int) ∧ wid v := by
  simp only [mayB, Bool.or_eq_true, beq_iff_eq] at h
  rcases h with ((h | h) | h) | h
  · exact ⟨1, h, .inl rfl⟩
  · exact ⟨2, h, .inr (.inl rfl)⟩
  · exact ⟨4, h, .inr (.inr (.inl rfl))⟩
  · exact ⟨8, h, .inr (.inr (.inr rfl))⟩
theorem may_wid {v : Nat} (h : wid v) : mayB (v : Int) = true := by rcases h with h | h | h | h <;> subst h <;> rfl
def okS (n w : Int) : Bool := decide (1 ≤ n) && decide (n ≤ 64) && mayB w
theorem okS_of {n w : Int} (h : okS n w = true) : ∃ m v : Nat, n = (m : Int) ∧ w = (v : Int) ∧ 1 ≤ m ∧ m ≤ 64 ∧ wid v := by
  simp only [okS, Bool.and_eq_true, decide_eq_true_eq] at h
  obtain ⟨v, rfl, hv⟩ := wid_of h.2
  exact ⟨n.toNat, v, by omega, rfl, by omega, by omega, hv⟩
theorem pow_lt9 {j : Nat} (h : j ≤ 8) : 2 ^ j ≤ 256 := Nat.le_trans (Nat.pow_le_pow_right (by omega) h) (by decide)
theorem nd_zero (b f : Nat) : nd b f 0 = 0 := by cases f <;> simp [nd]
theorem nd_step (b f x : Nat) (h : x ≠ 0) : nd b (f + 1) x = nd b f (x / b) + 1 := by simp [nd, h]
theorem own_alloc {w : World} {B e size n : Nat} {v : Value} {xs : List Value} (h : w.ownsRow B e size v n xs) (o : Obj) : (w.alloc o).ownsRow B e size v n xs := h.alloc o
theorem own_nili (w : World) (B : Nat) : w.ownsRow B 3 1 (.slice none 0 0) 0 (iv []) := World.ownsRow_nil _ _ _ _
theorem own_lit8 (w : World) (B : Nat) (xs : List UInt8) (hB : B ≤ w.heap.size) (hm : xs.length ≤ maxLen) :
    (w.alloc (.cells (bv xs).toArray 5)).ownsRow B 5 1 (.slice (some ⟨w.heap.size, 0, none⟩) xs.length xs.length) xs.length (bv xs) := by
  have := World.ownsRow_lit (base := B) (e := 5) (size := 1) w (bv xs).toArray xs.length hB hm (by simp [bv_length])
  simpa using this
theorem rd_lit8 (w : World) (vs : Array Value) (xs : List UInt8) (h : vs.toList = bv xs) (hm : xs.length ≤ maxLen) (b : Nat) (hb : w.heap.size = b) : Rd (w.alloc (.cells vs 5)) (some ⟨b, 0, none⟩) xs.length xs.length xs := by
  subst hb
  obtain ⟨vs⟩ := vs
  simp only at h
  subst h
  exact Rd.own (own_lit8 w 0 xs (Nat.zero_le _) hm)
theorem own_basei {w : World} {B B' e size n : Nat} {v : Value} {xs : List Value} (h : w.ownsRow B e size v n xs) (hB : B' ≤ B) : w.ownsRow B' e size v n xs := by
  refine ⟨h.1, ?_⟩
  rcases h.2 with h | ⟨g, cap, cur, h1, h2, h3⟩
  · exact .inl h
  · exact .inr ⟨g, cap, cur, h1, by omega, h3⟩
/-- make of bytes where it is guarded. -/
theorem make_zz {w : World} {ops : Array Oper} {rest : List Oper} {o : Oper} {a : Act} {Q : Exit → Act → World → Prop} (hw : Region.wanted o (yielded ops a.tmps) = true)
    (l c : Operand) (hop : o.op = Op.makeSlice 36 l c) (base : Nat) (n : Nat) {kl kc : IntKind} {L C : Int} (hl : a.eval l = .int kl L) (hc : a.eval c = .int kc C) (hL : L = (n : Int)) (hC : C = (n : Int)) (b2 : n ≤ 1000000) (b4 : base ≤ w.heap.size)
    (hK : ∀ w', w'.ownsRow base 5 1 (.slice (some ⟨w.heap.size, 0, none⟩) n n) n (bv (List.replicate n 0)) → w.grownBy w' none → wpList Tryd.prog ops Q rest (a.put o.dst (.slice (some ⟨w.heap.size, 0, none⟩) n n)) w') :
    wpList Tryd.prog ops Q (o :: rest) a w := by
  obtain ⟨i0, hi, hz0, hz1, hz2⟩ := info_parts Tryd.infoU8
  obtain ⟨w', hrun, r1, r2⟩ := run_make_full (P := Tryd.prog) w base 36 5 i0 (.int .u8 0) 1 Tryd.underlying36 hi hz0 hz1 kl kc n (by rw [hz2]; omega) (by unfold maxLen; omega) b4
  subst hL
  subst hC
  unfold wpList
  rw [if_pos hw]
  left
  unfold Oper.wp
  simp [execOp, hop, hl, hc, hrun, Result.andThen]
  refine hK w' ?_ r2
  rw [Nat.mul_one] at r1
  rw [← bv_zero]
  exact r1
def ofW (w : Int) (xs : List UInt8) : List Nat := if mayB w = true then ofL w.toNat xs else []
def lackW (w : Int) (xs : List UInt8) : Nat := if mayB w = true then lk w.toNat (ofL w.toNat xs) else 0
def shW (n w : Int) : Nat × Nat × Nat := if okS n w = true then (shU n.toNat w.toNat, shV n.toNat w.toNat, shL n.toNat w.toNat) else (0, 0, 0)
def allW (w : Int) (xs : List UInt8) : List Nat := if okS xs.length w = true then allL w.toNat xs else []
/-- What a call gives: numbers that read so. -/
def GivesI (B : Nat) (w : World) (xs : List Nat) (e : Ending) (w' : World) : Prop := ∃ (A : Option Addr) (c : Nat), e = .returned (.slice A xs.length c) ∧ Ri w' A xs.length c xs ∧ Below B w w'
theorem GivesI.of_new {B : Nat} {w w' : World} {xs : List Nat} {e : Ending} (h : NewI B w xs e w') : GivesI B w xs e w' := by
  obtain ⟨A, c, h1, h2, _, h4⟩ := newi_len h
  exact ⟨A, c, h1, h2, h4⟩
/-- What the calls of package digits do, in a world that holds what they read. -/
structure DC where
  ok : World → Prop
  bel : ∀ {w w' : World}, ok w → Below w.heap.size w w' → ok w'
  may : ∀ (w : Int) (W : World), ok W → Calls Tryd.prog 53 #[.int .i64 w] W fun e w' => e = .returned (.bool (mayB w)) ∧ Below W.heap.size W w'
  shape : ∀ (n w : Int) (W : World), ok W → Calls Tryd.prog 50 #[.int .i64 n, .int .i64 w] W fun e w' => e = .returned (.tuple #[.int .i64 (((shW n w).1 : Nat) : Int), .int .i64 (((shW n w).2.1 : Nat) : Int), .int .i64 (((shW n w).2.2 : Nat) : Int)]) ∧ Below W.heap.size W w'
end Go.Proofs.YtccnbepccajdoaaDoor.S7
