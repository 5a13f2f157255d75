/-
  Texts put together: Words, Rv1, Dk1, Sha, Bits, Cel, Blk, Oct. No statement is proved here.
-/
import Derived.Test.YtnoflgkjdibblaaGreatDoorRows
import Derived.WalkKit
import Derived.WalkSpells
import Derived.WalkLawsBesides
import Derived.Laws.AppendOwnNone
import Derived.Lib.Hide
import Derived.Below
import Derived.Laws.OwnMore
import Derived.Deep.Draws
import Derived.Laws.Rows
import Derived.Deep.WholeRow
import Derived.Deep.MidRow
import Derived.Laws.CopyOwn
import Derived.Deep.QuietTactic

/-
  Words of this seat's proofs: rows of bytes in memory, as lists of UInt8. Plain lemmas, no statement is proved here.
-/
namespace Go.Proofs.YtnoflgkjdibblaaGreatDoor
set_option linter.unusedSimpArgs false
set_option linter.unusedVariables false
set_option maxRecDepth 1024
open Go.RowKit

theorem Tryz.infoU8 : (Tryz.prog.info? 5).map (fun i => (i.zero, i.size, i.bytes)) = some (some (.int .u8 0), 1, 1) := by kernel_rfl

/-- A row of bytes as values. -/
def bv (xs : List UInt8) : List Value := xs.map fun b => Value.int .u8 (b.toNat : Int)
theorem bv_length (xs : List UInt8) : (bv xs).length = xs.length := by simp [bv]
theorem bv_append (xs ys : List UInt8) : bv (xs ++ ys) = bv xs ++ bv ys := by simp [bv]
theorem bv_set (xs : List UInt8) (i : Nat) (b : UInt8) : (bv xs).set i (.int .u8 (b.toNat : Int)) = bv (xs.set i b) := by simp [bv, List.map_set]
theorem bv_at (xs : List UInt8) (i : Nat) (h : i < xs.length) : (bv xs)[i]? = some (.int .u8 (xs[i].toNat : Int)) := by simp [bv, h]
theorem bv_one (xs : List UInt8) : ∀ u ∈ bv xs, u.oneCell' = true := by
  intro u hu
  simp only [bv, List.mem_map] at hu
  obtain ⟨b, _, rfl⟩ := hu
  rfl
theorem bv_zero (n : Nat) : (madeCells #[Value.int .u8 0] n).toList = bv (List.replicate n 0) := by
  rw [toList_madeCells_one]
  simp [bv]
theorem u8_lt (b : UInt8) : b.toNat < 256 := b.toNat_lt

/-- The slice value of address A, length n and capacity c reads as the bytes xs. -/
structure Rd (w : World) (A : Option Addr) (n c : Nat) (xs : List UInt8) : Prop where
  len : xs.length = n
  cap : n ≤ c
  max : c ≤ maxLen
  nil : A = none → c = 0
  at_ : 0 < n → ∃ b off, A = some ⟨b, off, none⟩ ∧ b < w.heap.size ∧ ∀ j, j < n → w.cell? ⟨b, off + j, none⟩ = some (.int .u8 ((xs.getD j 0).toNat : Int))

theorem Rd.keep {w w' : World} {A : Option Addr} {n c : Nat} {xs : List UInt8} (h : Rd w A n c xs) (hs : w.heap.size ≤ w'.heap.size)
    (hk : ∀ p : Addr, p.block < w.heap.size → w'.cell? p = w.cell? p) : Rd w' A n c xs :=
  ⟨h.len, h.cap, h.max, h.nil, fun hn => by
    obtain ⟨b, off, e, hb, hc⟩ := h.at_ hn
    exact ⟨b, off, e, Nat.lt_of_lt_of_le hb hs, fun j hj => (hk _ hb).trans (hc j hj)⟩⟩
theorem Rd.below {w w' : World} {A : Option Addr} {n c : Nat} {xs : List UInt8} (h : Rd w A n c xs) (hb : Below w.heap.size w w') : Rd w' A n c xs :=
  h.keep hb.size fun _ hp => hb.cell hp
theorem Rd.alloc {w : World} {A : Option Addr} {n c : Nat} {xs : List UInt8} (h : Rd w A n c xs) (o : Obj) : Rd (w.alloc o) A n c xs :=
  h.below ((Below.refl _ _).alloc (Nat.le_refl _) o)
theorem Rd.drew {w : World} {A : Option Addr} {n c : Nat} {xs : List UInt8} (h : Rd w A n c xs) : Rd w.drew A n c xs := h.below (Below.refl _ _).drew
theorem Rd.nil_ (w : World) : Rd w none 0 0 [] := ⟨rfl, Nat.le_refl _, by simp [maxLen], fun _ => rfl, fun h => absurd h (by omega)⟩
/-- What is owned reads. -/
theorem Rd.own {w : World} {B e n : Nat} {A : Option Addr} {c : Nat} {xs : List UInt8} (h : w.ownsRow B e 1 (.slice A n c) n (bv xs)) : Rd w A n c xs := by
  have hl : xs.length = n := by have := h.1; simp [bv_length] at this; exact this
  rcases h.2 with ⟨hv, hn⟩ | ⟨g, cap, cur, hv, _, hh, hnc, hcm, _, htake⟩
  · injection hv with h1 h2 h3
    subst h1 h2 h3
    have : xs = [] := List.eq_nil_of_length_eq_zero hl
    subst this
    exact Rd.nil_ w
  · injection hv with h1 h2 h3
    subst h1 h3
    refine ⟨hl, hnc, hcm, (fun h => by cases h), fun hn => ⟨g, 0, rfl, (Array.getElem?_eq_some_iff.1 hh).1, fun j hj => ?_⟩⟩
    have := h.cellAt j (by omega)
    rw [Nat.zero_add, this, bv_at xs j (by omega)]
    simp [List.getD, hl ▸ hj]

/-- s[lo:hi], as the model spells the address. -/
theorem Rd.cut {w : World} {A : Option Addr} {n c : Nat} {xs : List UInt8} (h : Rd w A n c xs) {k : Nat} (hk : k ≤ n) :
    Rd w (if c = k then A else A.map (·.add k)) (n - k) (c - k) (xs.drop k) := by
  have hc := h.cap
  refine ⟨by simp [h.len], by omega, by have := h.max; omega, fun e => ?_, fun hn => ?_⟩
  · split at e
    · have := h.nil e; omega
    · have : A = none := by simpa using e
      have := h.nil this; omega
  · obtain ⟨b, off, rfl, hb, hcell⟩ := h.at_ (by omega)
    rw [if_neg (by omega)]
    refine ⟨b, off + k, ?_, hb, fun j hj => ?_⟩
    · simp only [Option.map_some, Addr.add]
      split
      · subst_vars; rfl
      · rfl
    · have := hcell (k + j) (by omega)
      rw [Nat.add_assoc, this]
      simp [List.getD, List.getElem?_drop]
theorem Rd.take {w : World} {A : Option Addr} {n c : Nat} {xs : List UInt8} (h : Rd w A n c xs) {k : Nat} (hk : k ≤ n) : Rd w A k c (xs.take k) := by
  have hl := h.len
  have hc := h.cap
  refine ⟨by simp; omega, by omega, h.max, h.nil, fun hn => ?_⟩
  obtain ⟨b, off, rfl, hb, hcell⟩ := h.at_ (by omega)
  refine ⟨b, off, rfl, hb, fun j hj => ?_⟩
  rw [hcell j (by omega)]
  simp [List.getD, List.getElem?_take, hj]

theorem own_form {w : World} {B e n : Nat} {v : Value} {xs : List Value} (h : w.ownsRow B e 1 v n xs) : ∃ (A : Option Addr) (c : Nat), v = .slice A n c := by
  rcases h.2 with ⟨rfl, rfl⟩ | ⟨g, cap, cur, rfl, _⟩
  · exact ⟨none, 0, rfl⟩
  · exact ⟨_, _, rfl⟩
theorem own_len {w : World} {B e n : Nat} {v : Value} {xs : List UInt8} (h : w.ownsRow B e 1 v n (bv xs)) : xs.length = n := by
  have := h.1; simp [bv_length] at this; exact this

/-- 'out = append(out, p...)': out nil or the call's own, p whatever bytes. -/
theorem append_rd {w : World} {ops : Array Oper} {rest : List Oper} {o : Oper} {a : Act} {Q : Exit → Act → World → Prop} (hgd : o.guard = none) (s x : Operand)
    (ho : o.op = .call { callee := .builtin .append, args := #[s, x], argTypes := #[23, 23] })
    (base : Nat) (v : Value) (n : Nat) (xs : List UInt8) (hs : a.eval s = v) (hown : w.ownsRow base 5 1 v n (bv xs))
    (A : Option Addr) (m c : Nat) (ys : List UInt8) (hx : a.eval x = .slice A m c) (hr : Rd w A m c ys) (hb : n + m ≤ 140737488355328) (hbase : base ≤ w.heap.size)
    (h : ∀ v' w', w'.ownsRow base 5 1 v' (n + m) (bv (xs ++ ys)) → w.grownBy w' v.ownBlock → wpList Tryz.prog ops Q rest (a.put o.dst v') w') : wpList Tryz.prog ops Q (o :: rest) a w := by
  obtain ⟨i0, hi, hz0, hz1, hz2⟩ := info_parts Tryz.infoU8
  rcases A with _ | ad
  · have hc := hr.nil rfl
    have hm : m = 0 := by have := hr.cap; omega
    subst hc hm
    obtain rfl : ys = [] := List.eq_nil_of_length_eq_zero hr.len
    exact wpList_append_own_none hgd s x _ ho base 5 i0 1 Tryz.underlying23 hi v n (bv xs) hs hown hx (h v w (by simpa using hown) (World.grownBy.refl _ _))
  · refine wpList_append_own w hgd s x _ ho base 5 i0 (.int .u8 0) 1 1 Tryz.underlying23 hi hz0 hz1 hz2 rfl (by omega) v n (bv xs) hs hown ad m c (bv ys) hx (by simp [bv_length, hr.len]) ?_ (bv_one _)
      (by simp only [maxLen]; omega) (by omega) hbase fun v' w' h1 h2 _ => h v' w' (by rw [bv_append]; exact h1) h2
    intro j u hj
    have hl := hr.len
    have hjl : j < ys.length := by
      rcases Nat.lt_or_ge j ys.length with h | h
      · exact h
      · rw [List.getElem?_eq_none (by simpa [bv_length] using h)] at hj; cases hj
    obtain ⟨b, off, e, _, hc⟩ := hr.at_ (by omega)
    replace e := Option.some.inj e
    subst e
    have hp : (⟨b, off, none⟩ : Addr).add j = ⟨b, off + j, none⟩ := by unfold Addr.add; split <;> simp_all
    rw [bv_at ys j hjl] at hj
    rw [hp, hc j (by omega), ← hj]
    simp [List.getD, hjl]

/-- A slice of rows of bytes reads as xss. -/
structure RdBs (w : World) (A : Option Addr) (n c : Nat) (xss : List (List UInt8)) : Prop where
  len : xss.length = n
  cap : n ≤ c
  max : c ≤ maxLen
  nil : A = none → c = 0
  at_ : 0 < n → ∃ b off, A = some ⟨b, off, none⟩ ∧ b < w.heap.size ∧ ∀ j, j < n → ∃ A' n' c', w.cell? ⟨b, off + j, none⟩ = some (.slice A' n' c') ∧ Rd w A' n' c' (xss[j]?.getD [])
theorem RdBs.below {w w' : World} {A : Option Addr} {n c : Nat} {xss : List (List UInt8)} (h : RdBs w A n c xss) (hb : Below w.heap.size w w') : RdBs w' A n c xss :=
  ⟨h.len, h.cap, h.max, h.nil, fun hn => by
    obtain ⟨b, off, e, hlt, hc⟩ := h.at_ hn
    refine ⟨b, off, e, Nat.lt_of_lt_of_le hlt hb.size, fun j hj => ?_⟩
    obtain ⟨A', n', c', h1, h2⟩ := hc j hj
    exact ⟨A', n', c', (hb.cell (p := ⟨b, off + j, none⟩) hlt).trans h1, h2.below hb⟩⟩
theorem RdBs.nil_ (w : World) : RdBs w none 0 0 [] := ⟨rfl, Nat.le_refl _, by simp [maxLen], fun _ => rfl, fun h => absurd h (by omega)⟩

/-- A slice of slices that is written out. -/
theorem RdBs.built (w : World) (cs : Array Value) (T : TypeId) (xss : List (List UInt8)) (hn : xss.length ≤ maxLen)
    (h : ∀ j, j < xss.length → ∃ A n c, cs[j]? = some (.slice A n c) ∧ Rd w A n c (xss[j]?.getD [])) :
    RdBs (w.alloc (.cells cs T)) (some ⟨w.heap.size, 0, none⟩) xss.length xss.length xss :=
  ⟨rfl, Nat.le_refl _, hn, (fun h => by cases h), fun _ => ⟨w.heap.size, 0, rfl, by simp, fun j hj => by
    obtain ⟨A, n, c, h1, h2⟩ := h j hj
    exact ⟨A, n, c, by rw [Nat.zero_add, World.cell?_alloc_at cs T _ j rfl]; exact h1, h2.alloc _⟩⟩⟩
theorem RdBs.built1 (w : World) (T : TypeId) {A : Option Addr} {n c : Nat} {xs : List UInt8} (h : Rd w A n c xs) :
    RdBs (w.alloc (.cells #[.slice A n c] T)) (some ⟨w.heap.size, 0, none⟩) 1 1 [xs] :=
  RdBs.built w _ T [xs] (by simp [maxLen]) fun j hj => by
    obtain rfl : j = 0 := by simpa using hj
    exact ⟨A, n, c, rfl, h⟩
theorem RdBs.built2 (w : World) (T : TypeId) {A A' : Option Addr} {n c n' c' : Nat} {xs ys : List UInt8} (h : Rd w A n c xs) (h' : Rd w A' n' c' ys) :
    RdBs (w.alloc (.cells #[.slice A n c, .slice A' n' c'] T)) (some ⟨w.heap.size, 0, none⟩) 2 2 [xs, ys] :=
  RdBs.built w _ T [xs, ys] (by simp [maxLen]) fun j hj => by
    match j, hj with
    | 0, _ => exact ⟨A, n, c, rfl, h⟩
    | 1, _ => exact ⟨A', n', c', rfl, h'⟩

/-- Bytes in new memory are handed back. -/
def New (B : Nat) (w : World) (xs : List UInt8) (e : Ending) (w' : World) : Prop :=
  ∃ (A : Option Addr) (n c : Nat), e = .returned (.slice A n c) ∧ w'.ownsRow B 5 1 (.slice A n c) n (bv xs) ∧ Below B w w'
theorem New.mk {B : Nat} {w w' : World} {v : Value} {n : Nat} {xs : List UInt8} (h : w'.ownsRow B 5 1 v n (bv xs)) (hb : Below B w w') : New B w xs (.returned v) w' := by
  obtain ⟨A, c, rfl⟩ := own_form h
  exact ⟨A, n, c, rfl, h, hb⟩
theorem New.mono {B B' : Nat} {w : World} {xs : List UInt8} {e : Ending} {w' : World} (h : New B w xs e w') (hB : B' ≤ B) : New B' w xs e w' := by
  obtain ⟨A, n, c, he, ho, hb⟩ := h
  refine ⟨A, n, c, he, ⟨ho.1, ?_⟩, hb.mono hB⟩
  rcases ho.2 with h | ⟨g, cap, cur, h1, h2, h3⟩
  · exact .inl h
  · exact .inr ⟨g, cap, cur, h1, Nat.le_trans hB h2, h3⟩

theorem New.from {w W : World} {xs : List UInt8} {e : Ending} {w' : World} (hb : Below w.heap.size w W) (h : New W.heap.size W xs e w') : New w.heap.size w xs e w' := by
  obtain ⟨A, n, c, he, ho, hbb⟩ := h.mono hb.size
  exact ⟨A, n, c, he, ho, hb.trans hbb⟩

/-- v's last n bytes, the greatest first. -/
def putL (v : Nat) : Nat → List UInt8
  | 0 => []
  | j + 1 => UInt8.ofNat (v / 256 ^ j) :: putL v j
theorem putL_length (v n : Nat) : (putL v n).length = n := by induction n with
  | zero => rfl
  | succ n ih => simp [putL, ih]
/-- The number that bytes are. -/
def getL (xs : List UInt8) : Nat := xs.foldl (fun v c => v * 256 + c.toNat) 0
theorem getL_snoc (xs : List UInt8) (c : UInt8) : getL (xs ++ [c]) = getL xs * 256 + c.toNat := by simp [getL]
theorem getL_from (xs : List UInt8) : ∀ a : Nat, xs.foldl (fun v c => v * 256 + c.toNat) a < (a + 1) * 256 ^ xs.length := by
  induction xs with
  | nil => intro a; simp
  | cons c xs ih =>
    intro a
    simp only [List.foldl_cons, List.length_cons]
    have h := ih (a * 256 + c.toNat)
    have hc := c.toNat_lt
    have h2 : (a * 256 + c.toNat + 1) * 256 ^ xs.length ≤ ((a + 1) * 256) * 256 ^ xs.length := Nat.mul_le_mul_right _ (by omega)
    have h3 : (a + 1) * 256 ^ (xs.length + 1) = ((a + 1) * 256) * 256 ^ xs.length := by rw [Nat.pow_succ]; ac_rfl
    omega
theorem getL_lt (xs : List UInt8) : getL xs < 256 ^ xs.length := by simpa [getL] using getL_from xs 0

end Go.Proofs.YtnoflgkjdibblaaGreatDoor

/-
  A counter as bytes, and what is taken of it, in plain words. No statement is proved here.
-/
namespace Go.Proofs.YtnoflgkjdibblaaGreatDoor.S21
set_option linter.unusedSimpArgs false
set_option linter.unusedVariables false

/-- A counter: its total, its batch, how many are reserved, the next one, whether it is retired. -/
structure Cn where
  tot : Nat
  bat : Nat
  res : Nat
  nxt : Nat
  gone : Bool
namespace Cn
def zero : Cn := ⟨0, 0, 0, 0, false⟩
def cells (x : Cn) : Array Value := #[.int .u64 (x.tot : Int), .int .u64 (x.bat : Int), .int .u64 (x.res : Int), .int .u64 (x.nxt : Int), .bool x.gone]
/-- May a counter be? -/
def May (x : Cn) (h : Nat) : Prop := 0 < x.tot ∧ x.tot ≤ 1152921504606846976 ∧ 0 < x.bat ∧ x.bat ≤ 65536 ∧ x.res ≤ x.tot ∧ h ≤ 200
instance (x : Cn) (h : Nat) : Decidable (x.May h) := by unfold May; exact inferInstance
/-- Numbers of 64 bits. -/
structure Fit (x : Cn) : Prop where
  tot : x.tot < 18446744073709551616
  bat : x.bat < 18446744073709551616
  res : x.res < 18446744073709551616
  nxt : x.nxt < 18446744073709551616
def flag (x : Cn) : UInt8 := if x.gone then 1 else 0
def row (x : Cn) (h : List UInt8) : List UInt8 := putL x.tot 8 ++ putL x.bat 8 ++ putL x.res 8 ++ [x.flag] ++ h
def bytesC (x : Cn) (h : List UInt8) : Nat := if x.May h.length then 0 else 1
def bytesB (x : Cn) (h : List UInt8) : List UInt8 := if x.May h.length then x.row h else []
theorem row_len (x : Cn) (h : List UInt8) : (x.row h).length = 25 + h.length := by simp [row, putL_length]; omega
/-- The counter that bytes are, its next number being what is reserved. -/
def ofB (b : List UInt8) : Cn := ⟨getL (b.take 8), getL ((b.drop 8).take 8), getL ((b.drop 16).take 8), getL ((b.drop 16).take 8), decide (b.getD 24 0 = 1)⟩
def readC (b : List UInt8) : Nat := if b.length < 25 then 2 else if 1 < (b.getD 24 0).toNat ∨ ¬ (ofB b).May (b.length - 25) then 3 else 0
def readX (b : List UInt8) : Cn := if readC b = 0 then ofB b else zero
def readH (b : List UInt8) : List UInt8 := if readC b = 0 then b.drop 25 else []
theorem get8 (b : List UInt8) (k : Nat) : getL ((b.drop k).take 8) < 18446744073709551616 := by
  have h := getL_lt ((b.drop k).take 8)
  have : 256 ^ ((b.drop k).take 8).length ≤ 256 ^ 8 := Nat.pow_le_pow_right (by omega) (by simp; omega)
  have e : (256 : Nat) ^ 8 = 18446744073709551616 := by decide
  omega
theorem ofB_fit (b : List UInt8) : (ofB b).Fit := ⟨by have := get8 b 0; simpa [ofB] using this, get8 b 8, get8 b 16, get8 b 16⟩
theorem may_fit {x : Cn} {h : Nat} (m : x.May h) (hn : x.nxt < 18446744073709551616) : x.Fit := by
  unfold May at m
  exact ⟨by omega, by omega, by omega, hn⟩
theorem get_mod (V n : Nat) : getL (putL V n) = V % 256 ^ n := by
  have gen : ∀ (n a : Nat), (putL V n).foldl (fun v c => v * 256 + c.toNat) a = a * 256 ^ n + V % 256 ^ n := by
    intro n
    induction n with
    | zero => intro a; simp [putL, Nat.mod_one]
    | succ n ih =>
      intro a
      rw [putL, List.foldl_cons, ih]
      have e : (UInt8.ofNat (V / 256 ^ n)).toNat = V / 256 ^ n % 256 := by simp
      have h : V % 256 ^ (n + 1) = V / 256 ^ n % 256 * 256 ^ n + V % 256 ^ n := by
        rw [Nat.pow_succ, Nat.mod_mul, Nat.add_comm, Nat.mul_comm]
      rw [e, h, Nat.pow_succ, Nat.add_mul, Nat.add_assoc]
      congr 1
      rw [Nat.mul_assoc, Nat.mul_comm 256]
  simpa [getL] using gen n 0
theorem put_get (xs : List UInt8) : putL (getL xs) xs.length = xs := by
  have gen : ∀ (xs : List UInt8) (a : Nat), putL (xs.foldl (fun v c => v * 256 + c.toNat) a) xs.length = xs := by
    intro xs
    induction xs with
    | nil => intro a; rfl
    | cons c xs ih =>
      intro a
      rw [List.foldl_cons, List.length_cons, putL, ih]
      congr 1
      have h : ∀ (xs : List UInt8) (a : Nat), xs.foldl (fun v c => v * 256 + c.toNat) a / 256 ^ xs.length = a := by
        intro xs
        induction xs with
        | nil => intro a; simp
        | cons c xs ih =>
          intro a
          rw [List.foldl_cons, List.length_cons, Nat.pow_succ, ← Nat.div_div_eq_div_mul, ih]
          have := c.toNat_lt
          omega
      rw [h]
      apply UInt8.toNat_inj.1
      simp
  exact gen xs 0
theorem put_get8 {xs : List UInt8} (h : xs.length = 8) : putL (getL xs) 8 = xs := by have := put_get xs; rwa [h] at this
theorem get_put8 {n : Nat} (h : n < 18446744073709551616) : getL (putL n 8) = n := by
  rw [get_mod]
  exact Nat.mod_eq_of_lt (by have e : (256 : Nat) ^ 8 = 18446744073709551616 := by decide
                             omega)
section
variable (x : Cn) (h : List UInt8)
theorem row_a : (x.row h).take 8 = putL x.tot 8 := by
  unfold row
  rw [List.append_assoc, List.append_assoc, List.append_assoc, List.take_append_of_le_length (by rw [putL_length]; omega), List.take_of_length_le (by rw [putL_length]; omega)]
theorem row_b : ((x.row h).drop 8).take 8 = putL x.bat 8 := by
  unfold row
  rw [List.append_assoc, List.append_assoc, List.append_assoc, List.drop_append, List.drop_of_length_le (by rw [putL_length]; omega), putL_length, List.nil_append, List.drop_zero, List.take_append_of_le_length (by rw [putL_length]; omega), List.take_of_length_le (by rw [putL_length]; omega)]
theorem row_c : ((x.row h).drop 16).take 8 = putL x.res 8 := by
  have e : (x.row h).drop 16 = putL x.res 8 ++ ([x.flag] ++ h) := by
    unfold row
    rw [List.append_assoc, List.append_assoc, List.drop_append, List.drop_of_length_le (by simp [putL_length])]
    simp [putL_length]
  rw [e, List.take_append_of_le_length (by rw [putL_length]; omega), List.take_of_length_le (by rw [putL_length]; omega)]
theorem row_d : (x.row h).drop 24 = x.flag :: h := by
  unfold row
  rw [List.append_assoc, List.drop_append, List.drop_of_length_le (by simp [putL_length])]
  simp [putL_length]
theorem row_e : (x.row h).getD 24 0 = x.flag := by
  have e := row_d x h
  have e2 : ((x.row h).drop 24)[0]? = some x.flag := by rw [e]; rfl
  rw [List.getElem?_drop] at e2
  rw [List.getD_eq_getElem?_getD]
  simp [e2]
theorem row_f : (x.row h).drop 25 = h := by
  have e := row_d x h
  rw [show (25 : Nat) = 24 + 1 from rfl, ← List.drop_drop, e]
  rfl
theorem flag_one : decide (x.flag = 1) = x.gone := by
  unfold flag
  cases x.gone <;> decide
/-- What is written is read. -/
theorem ofB_row (f : x.Fit) : ofB (x.row h) = { x with nxt := x.res } := by
  unfold ofB
  rw [row_a, row_b, row_c, row_e, get_put8 f.tot, get_put8 f.bat, get_put8 f.res, flag_one]
theorem read_row (f : x.Fit) (m : x.May h.length) : readC (x.row h) = 0 := by
  unfold readC
  rw [row_len, row_e, ofB_row x h f, if_neg (by omega), if_neg]
  rintro (e | e)
  · unfold flag at e
    revert e
    cases x.gone <;> decide
  · exact e (by rw [show 25 + h.length - 25 = h.length by omega]; exact m)
end
/-- What is read is written so. -/
theorem row_ofB {b : List UInt8} (h : readC b = 0) : (ofB b).row (b.drop 25) = b := by
  unfold readC at h
  split at h
  · omega
  rename_i hl
  split at h
  · omega
  rename_i hc
  have hg : ¬ 1 < (b.getD 24 0).toNat := fun e => hc (.inl e)
  unfold row ofB
  simp only
  rw [put_get8 (by simp; omega), put_get8 (by simp; omega), put_get8 (by simp; omega)]
  have hf : (flag ⟨getL (b.take 8), getL ((b.drop 8).take 8), getL ((b.drop 16).take 8), getL ((b.drop 16).take 8), decide (b.getD 24 0 = 1)⟩ : UInt8) = b.getD 24 0 := by
    unfold flag
    simp only [decide_eq_true_eq]
    split
    · rename_i e; exact e.symm
    · rename_i e
      generalize b.getD 24 0 = c at hg e ⊢
      apply UInt8.toNat_inj.1
      have h0 : c.toNat ≠ 1 := fun h => e (UInt8.toNat_inj.1 h)
      show 0 = c.toNat
      omega
  rw [hf]
  have e24 : [b.getD 24 0] ++ b.drop 25 = b.drop 24 := by
    have hlt : 24 < b.length := by omega
    rw [List.drop_eq_getElem_cons hlt, List.getD_eq_getElem?_getD, List.getElem?_eq_getElem hlt]
    rfl
  rw [List.append_assoc, e24, List.append_assoc, List.append_assoc]
  have t1 : (b.drop 16).take 8 ++ b.drop 24 = b.drop 16 := by
    have := List.take_append_drop 8 (b.drop 16)
    rwa [List.drop_drop] at this
  have t2 : (b.drop 8).take 8 ++ b.drop 16 = b.drop 8 := by
    have := List.take_append_drop 8 (b.drop 8)
    rwa [List.drop_drop] at this
  rw [t1, t2, List.take_append_drop]
end Cn
end Go.Proofs.YtnoflgkjdibblaaGreatDoor.S21

/-
  A disk in plain words: what is sure, what is pending, a plan. No statement is proved here.
-/
namespace Go.Proofs.YtnoflgkjdibblaaGreatDoor.S19
set_option linter.unusedSimpArgs false
set_option linter.unusedVariables false

structure Dk where
  sure : List (List UInt8)
  pend : List (Nat × List UInt8)
  fails : List Int
  stop : Int
  cnt : Nat
  off : Bool
namespace Dk
/-- A disk that is up, with a plan by which nothing fails. -/
def new (k : Nat) : Dk := ⟨List.replicate k (List.replicate 64 0), [], [], 0, 0, false⟩
/-- One that is counted: what it comes to, if the disk is up. -/
def step (D : Dk) : Dk := if (D.cnt : Int) + 1 = D.stop then { D with cnt := D.cnt + 1, off := true } else { D with cnt := D.cnt + 1 }
def stepC (D : Dk) : Nat := if D.off = true then 6 else if (D.cnt : Int) + 1 = D.stop then 6 else if ((D.cnt : Int) + 1) ∈ D.fails then 7 else 0
/-- Is there such a sector? -/
def has (D : Dk) (i : Int) : Prop := 0 ≤ i ∧ i < (D.sure.length : Int)
instance (D : Dk) (i : Int) : Decidable (D.has i) := by unfold has; exact inferInstance
def writeC (D : Dk) (i : Int) (b : List UInt8) : Nat := if D.off = true then 6 else if D.has i ∧ b.length = 64 then D.stepC else 1
def write (D : Dk) (i : Int) (b : List UInt8) : Dk :=
  if D.off = true then D else if D.has i ∧ b.length = 64 then (if D.stepC = 0 then { D.step with pend := D.pend ++ [(i.toNat, b)] } else D.step) else D
/-- What was written to a sector last. -/
def lastOf (i : Nat) : List (Nat × List UInt8) → List UInt8 → List UInt8
  | [], b => b
  | p :: ps, b => lastOf i ps (if p.1 = i then p.2 else b)
def atS (D : Dk) (i : Nat) : List UInt8 := lastOf i D.pend (D.sure.getD i [])
def readC (D : Dk) (i : Int) : Nat := if D.off = true then 6 else if D.has i then 0 else 1
def readB (D : Dk) (i : Int) : List UInt8 := if D.readC i = 0 then D.atS i.toNat else []
/-- Rows laid, one behind the other. -/
def laid : List (Nat × List UInt8) → List (List UInt8) → List (List UInt8)
  | [], s => s
  | p :: ps, s => laid ps (s.set p.1 p.2)
def flush (D : Dk) : Dk := if D.off = true then D else if D.stepC = 0 then { D.step with sure := laid D.pend D.sure, pend := [] } else D.step
/-- Of a pending write what is there. -/
def torn (c : Nat) (old now : List UInt8) : List UInt8 :=
  (List.range 64).map fun j => if c % 4 = 1 ∨ (c % 4 = 2 ∧ j < c / 4) ∨ (c % 4 = 3 ∧ c / 4 ≤ j) then now.getD j 0 else old.getD j 0
def choice (ch : List UInt8) (k : Nat) : Nat := if ch = [] then 0 else (ch.getD (k % ch.length) 0).toNat
def tear (ch : List UInt8) : Nat → List (Nat × List UInt8) → List (List UInt8) → List (List UInt8)
  | _, [], s => s
  | k, p :: ps, s => tear ch (k + 1) ps (s.set p.1 (torn (choice ch k) (s.getD p.1 []) p.2))
def up (D : Dk) (ch : List UInt8) (fs : List Int) (st : Int) : Dk := ⟨tear ch 0 D.pend D.sure, [], fs, st, 0, false⟩
def halt (D : Dk) : Dk := { D with off := true }
def plan (D : Dk) (fs : List Int) (st : Int) : Dk := { D with fails := fs, stop := st }
/-- What holds of every disk. -/
structure Ok (D : Dk) : Prop where
  one : 1 ≤ D.sure.length
  most : D.sure.length ≤ 256
  rows : ∀ b ∈ D.sure, b.length = 64
  pend : ∀ p ∈ D.pend, p.1 < D.sure.length ∧ p.2.length = 64
  few : D.pend.length ≤ D.cnt
theorem new_ok {k : Nat} (h1 : 1 ≤ k) (h2 : k ≤ 256) : (new k).Ok := by
  refine ⟨by simpa [new] using h1, by simpa [new] using h2, fun b hb => ?_, fun p hp => by simp [new] at hp, by simp [new]⟩
  simp [new] at hb
  rw [hb.2]; simp
theorem step_sure (D : Dk) : D.step.sure = D.sure := by unfold step; split <;> rfl
theorem step_pend (D : Dk) : D.step.pend = D.pend := by unfold step; split <;> rfl
theorem step_cnt (D : Dk) : D.step.cnt = D.cnt + 1 := by unfold step; split <;> rfl
theorem step_ok {D : Dk} (h : D.Ok) : D.step.Ok :=
  ⟨by rw [step_sure]; exact h.one, by rw [step_sure]; exact h.most, by rw [step_sure]; exact h.rows, by rw [step_sure, step_pend]; exact h.pend, by rw [step_pend, step_cnt]; have := h.few; omega⟩
theorem laid_len : ∀ (ps : List (Nat × List UInt8)) (s : List (List UInt8)), (laid ps s).length = s.length
  | [], s => rfl
  | p :: ps, s => by rw [laid, laid_len ps]; simp
theorem laid_rows {n : Nat} : ∀ (ps : List (Nat × List UInt8)) (s : List (List UInt8)), (∀ p ∈ ps, p.2.length = n) → (∀ b ∈ s, b.length = n) → ∀ b ∈ laid ps s, b.length = n
  | [], s, _, h => h
  | p :: ps, s, hp, h => laid_rows ps _ (fun q hq => hp q (by simp [hq])) fun b hb => by
    rcases List.mem_or_eq_of_mem_set hb with h1 | h1
    · exact h b h1
    · rw [h1]; exact hp p (by simp)
theorem torn_len (c : Nat) (a b : List UInt8) : (torn c a b).length = 64 := by simp [torn]
theorem tear_len (ch : List UInt8) : ∀ (ps : List (Nat × List UInt8)) (k : Nat) (s : List (List UInt8)), (tear ch k ps s).length = s.length
  | [], k, s => rfl
  | p :: ps, k, s => by rw [tear, tear_len ch ps]; simp
theorem tear_rows (ch : List UInt8) : ∀ (ps : List (Nat × List UInt8)) (k : Nat) (s : List (List UInt8)), (∀ b ∈ s, b.length = 64) → ∀ b ∈ tear ch k ps s, b.length = 64
  | [], k, s, h => h
  | p :: ps, k, s, h => tear_rows ch ps _ _ fun b hb => by
    rcases List.mem_or_eq_of_mem_set hb with h1 | h1
    · exact h b h1
    · rw [h1]; exact torn_len _ _ _
theorem has_lt {D : Dk} {i : Int} (h : D.has i) : i.toNat < D.sure.length := by unfold has at h; omega
theorem write_ok {D : Dk} (h : D.Ok) (i : Int) (b : List UInt8) : (D.write i b).Ok := by
  unfold write
  split
  · exact h
  split
  · rename_i h1
    have hs := step_ok h
    split
    · refine ⟨hs.one, hs.most, hs.rows, fun p hp => ?_, ?_⟩
      · simp only [List.mem_append, List.mem_singleton] at hp
        show p.1 < D.step.sure.length ∧ _
        rw [step_sure]
        rcases hp with hp | rfl
        · exact h.pend p hp
        · exact ⟨has_lt h1.1, h1.2⟩
      · show (D.pend ++ _).length ≤ D.step.cnt
        rw [step_cnt]
        have := h.few
        simp; omega
    · exact hs
  · exact h
theorem flush_ok {D : Dk} (h : D.Ok) : D.flush.Ok := by
  unfold flush
  split
  · exact h
  split
  · refine ⟨?_, ?_, ?_, fun p hp => (by cases hp), Nat.zero_le _⟩
    · show 1 ≤ (laid _ _).length
      rw [laid_len]; exact h.one
    · show (laid _ _).length ≤ 256
      rw [laid_len]; exact h.most
    · exact laid_rows _ _ (fun p hp => (h.pend p hp).2) h.rows
  · exact step_ok h
theorem up_ok {D : Dk} (h : D.Ok) (ch : List UInt8) (fs : List Int) (st : Int) : (D.up ch fs st).Ok := by
  refine ⟨?_, ?_, ?_, fun p hp => (by cases hp), Nat.zero_le _⟩
  · show 1 ≤ (tear _ _ _ _).length
    rw [tear_len]; exact h.one
  · show (tear _ _ _ _).length ≤ 256
    rw [tear_len]; exact h.most
  · exact tear_rows _ _ _ _ h.rows
theorem halt_ok {D : Dk} (h : D.Ok) : D.halt.Ok := ⟨h.one, h.most, h.rows, h.pend, h.few⟩
theorem plan_ok {D : Dk} (h : D.Ok) (fs : List Int) (st : Int) : (D.plan fs st).Ok := ⟨h.one, h.most, h.rows, h.pend, h.few⟩
theorem write_cnt (D : Dk) (i : Int) (b : List UInt8) : (D.write i b).cnt ≤ D.cnt + 1 := by
  unfold write
  split
  · omega
  split
  · split
    · show D.step.cnt ≤ _
      rw [step_cnt]; omega
    · rw [step_cnt]; omega
  · omega
theorem flush_cnt (D : Dk) : D.flush.cnt ≤ D.cnt + 1 := by
  unfold flush
  split
  · omega
  split
  · show D.step.cnt ≤ _
    rw [step_cnt]; omega
  · rw [step_cnt]; omega
theorem lastOf_len {i n : Nat} : ∀ (ps : List (Nat × List UInt8)) (b : List UInt8), (∀ p ∈ ps, p.2.length = n) → b.length = n → (lastOf i ps b).length = n
  | [], b, _, h => h
  | p :: ps, b, hp, h => lastOf_len ps _ (fun q hq => hp q (by simp [hq])) (by split; exact hp p (by simp); exact h)
theorem atS_len {D : Dk} (h : D.Ok) {i : Nat} (hi : i < D.sure.length) : (D.atS i).length = 64 :=
  lastOf_len _ _ (fun p hp => (h.pend p hp).2) (h.rows _ (by rw [List.getD_eq_getElem?_getD, List.getElem?_eq_getElem hi]; simp))
theorem lastOf_append (i : Nat) (b' : List UInt8) (j : Nat) : ∀ (ps : List (Nat × List UInt8)) (b : List UInt8), lastOf i (ps ++ [(j, b')]) b = if j = i then b' else lastOf i ps b
  | [], b => by simp [lastOf]
  | p :: ps, b => by rw [List.cons_append, lastOf, lastOf_append i b' j ps, lastOf]
/-- What was written last is what is there, once it is laid. -/
theorem laid_at {i : Nat} : ∀ (ps : List (Nat × List UInt8)) (s : List (List UInt8)), i < s.length → (laid ps s).getD i [] = lastOf i ps (s.getD i [])
  | [], s, _ => rfl
  | p :: ps, s, hi => by
    rw [laid, lastOf, laid_at ps _ (by simpa using hi)]
    congr 1
    by_cases e : p.1 = i
    · subst e
      rw [if_pos rfl, List.getD_eq_getElem?_getD, List.getElem?_set_self hi]; rfl
    · rw [if_neg e, List.getD_eq_getElem?_getD, List.getElem?_set_ne e, ← List.getD_eq_getElem?_getD]
theorem tear_at (ch : List UInt8) {i : Nat} : ∀ (ps : List (Nat × List UInt8)) (k : Nat) (s : List (List UInt8)), (∀ p ∈ ps, p.1 ≠ i) → (tear ch k ps s).getD i [] = s.getD i []
  | [], k, s, _ => rfl
  | p :: ps, k, s, h => by
    rw [tear, tear_at ch ps _ _ fun q hq => h q (by simp [hq])]
    rw [List.getD_eq_getElem?_getD, List.getElem?_set_ne (h p (by simp)), ← List.getD_eq_getElem?_getD]
end Dk
end Go.Proofs.YtnoflgkjdibblaaGreatDoor.S19

/-
  SHA-256 in plain words: lists of bytes and 32-bit words. No statement is proved here.
-/
namespace Go.Proofs.YtnoflgkjdibblaaGreatDoor.S2
set_option linter.unusedSimpArgs false
set_option linter.unusedVariables false
set_option maxRecDepth 1024

def ad (x y : UInt32) : UInt32 := x + y
def su (x y : UInt32) : UInt32 := x - y
def an (x y : UInt32) : UInt32 := x &&& y
def xo (x y : UInt32) : UInt32 := x ^^^ y
def no (x : UInt32) : UInt32 := ~~~x
def rotr (x : UInt32) (n : Nat) : UInt32 := UInt32.ofNat (x.toNat / 2 ^ n + x.toNat * 2 ^ (32 - n))
def shr (x : UInt32) (n : Nat) : UInt32 := UInt32.ofNat (x.toNat / 2 ^ n)
def smE (x : UInt32) : UInt32 := xo (xo (rotr x 7) (rotr x 18)) (shr x 3)
def smL (x : UInt32) : UInt32 := xo (xo (rotr x 17) (rotr x 19)) (shr x 10)
def bgA (x : UInt32) : UInt32 := xo (xo (rotr x 2) (rotr x 13)) (rotr x 22)
def bgE (x : UInt32) : UInt32 := xo (xo (rotr x 6) (rotr x 11)) (rotr x 25)

def kN : List Int := [1116352408, 1899447441, 3049323471, 3921009573, 961987163, 1508970993, 2453635748, 2870763221, 3624381080, 310598401, 607225278, 1426881987, 1925078388, 2162078206, 2614888103, 3248222580, 3835390401, 4022224774, 264347078, 604807628, 770255983, 1249150122, 1555081692, 1996064986, 2554220882, 2821834349, 2952996808, 3210313671, 3336571891, 3584528711, 113926993, 338241895, 666307205, 773529912, 1294757372, 1396182291, 1695183700, 1986661051, 2177026350, 2456956037, 2730485921, 2820302411, 3259730800, 3345764771, 3516065817, 3600352804, 4094571909, 275423344, 430227734, 506948616, 659060556, 883997877, 958139571, 1322822218, 1537002063, 1747873779, 1955562222, 2024104815, 2227730452, 2361852424, 2428436474, 2756734187, 3204031479, 3329325298]
def kT : List UInt32 := kN.map fun z => UInt32.ofNat z.toNat

structure St where
  a : UInt32
  b : UInt32
  c : UInt32
  d : UInt32
  e : UInt32
  f : UInt32
  g : UInt32
  h : UInt32
deriving DecidableEq

def t1 (s : St) (k w : UInt32) : UInt32 := ad (ad (ad (ad s.h (bgE s.e)) (xo (an s.e s.f) (an (no s.e) s.g))) k) w
def t2 (s : St) : UInt32 := ad (bgA s.a) (xo (xo (an s.a s.b) (an s.a s.c)) (an s.b s.c))
def St.step (s : St) (k w : UInt32) : St := ⟨ad (t1 s k w) (t2 s), s.a, s.b, s.c, ad s.d (t1 s k w), s.e, s.f, s.g⟩
def St.add (s t : St) : St := ⟨ad s.a t.a, ad s.b t.b, ad s.c t.c, ad s.d t.d, ad s.e t.e, ad s.f t.f, ad s.g t.g, ad s.h t.h⟩
def rnds (ws : List UInt32) (s : St) : Nat → St
  | 0 => s
  | k + 1 => (rnds ws s k).step (kT.getD k 0) (ws.getD k 0)
/-- The words that follow, k of them. -/
def ext (ws : List UInt32) : Nat → List UInt32
  | 0 => ws
  | k + 1 => ext ws k ++ [ad (ad (ad (smL ((ext ws k).getD (14 + k) 0)) ((ext ws k).getD (9 + k) 0)) (smE ((ext ws k).getD (1 + k) 0))) ((ext ws k).getD k 0)]
/-- The t-th word of a block. -/
def w4 (xs : List UInt8) (t : Nat) : UInt32 := UInt32.ofNat (getL ((xs.drop (4 * t)).take 4))
def first16 (xs : List UInt8) : Nat → List UInt32
  | 0 => []
  | k + 1 => first16 xs k ++ [w4 xs k]
def wds (xs : List UInt8) : List UInt32 := ext (first16 xs 16) 48
def turn (s : St) (xs : List UInt8) : St := s.add (rnds (wds xs) s 64)
def hH : St := ⟨1779033703, 3144134277, 1013904242, 2773480762, 1359893119, 2600822924, 528734635, 1541459225⟩
/-- The state behind k blocks. -/
def turns (s : St) (xs : List UInt8) : Nat → St
  | 0 => s
  | k + 1 => turn (turns s xs k) ((xs.drop (64 * k)).take 64)
def pad (xs : List UInt8) : List UInt8 := xs ++ (128 :: List.replicate (63 - (xs.length + 8) % 64) 0) ++ putL (8 * xs.length) 8
def St.list (s : St) : List UInt32 := [s.a, s.b, s.c, s.d, s.e, s.f, s.g, s.h]
def outL (s : St) : List UInt8 := s.list.flatMap fun x => putL x.toNat 4
def sum (xs : List UInt8) : List UInt8 := outL (turns hH (pad xs) ((pad xs).length / 64))

theorem first16_length (xs : List UInt8) (k : Nat) : (first16 xs k).length = k := by
  induction k with
  | zero => rfl
  | succ k ih => simp [first16, ih]
theorem ext_length (ws : List UInt32) (k : Nat) : (ext ws k).length = ws.length + k := by
  induction k with
  | zero => rfl
  | succ k ih => simp [ext, ih]; omega
theorem wds_length (xs : List UInt8) : (wds xs).length = 64 := by simp [wds, ext_length, first16_length]
theorem kT_length : kT.length = 64 := rfl

end Go.Proofs.YtnoflgkjdibblaaGreatDoor.S2

/-
  Words of 32 bits as the walk spells them.
-/
namespace Go.Proofs.YtnoflgkjdibblaaGreatDoor.S2
set_option linter.unusedSimpArgs false
set_option linter.unusedVariables false
set_option maxRecDepth 1024
open Go.RowKit

theorem u32_lt (x : UInt32) : x.toNat < 4294967296 := x.toNat_lt
theorem u32_add (x y : UInt32) : IntKind.u32.wrap ((x.toNat : Int) + (y.toNat : Int)) = ((ad x y).toNat : Int) := by
  rw [IntKind.wrap_u32', ad, UInt32.toNat_add]; omega
theorem u32_sub (x y : UInt32) : IntKind.u32.wrap ((x.toNat : Int) - (y.toNat : Int)) = ((su x y).toNat : Int) := by
  have hx := u32_lt x
  have hy := u32_lt y
  rw [IntKind.wrap_u32', su, UInt32.toNat_sub]; omega
theorem u32_band (x y : UInt32) : bits .and .u32 (x.toNat : Int) (y.toNat : Int) = ((an x y).toNat : Int) := by
  rw [u32_and _ _ (by omega) (by have := u32_lt x; omega) (by omega) (by have := u32_lt y; omega)]; simp [an, xo]
theorem u32_bxor (x y : UInt32) : bits .xor .u32 (x.toNat : Int) (y.toNat : Int) = ((xo x y).toNat : Int) := by
  rw [u32_xor _ _ (by omega) (by have := u32_lt x; omega) (by omega) (by have := u32_lt y; omega)]; simp [an, xo]


theorem rot_nat (x n : Nat) (hx : x < 4294967296) (h0 : 0 < n) (h1 : n < 32) : (x / 2 ^ n) ||| (x * 2 ^ (32 - n) % 4294967296) = (x / 2 ^ n + x * 2 ^ (32 - n)) % 4294967296 := by
  obtain ⟨m, hm⟩ : ∃ m, m = 32 - n := ⟨_, rfl⟩
  have e32 : 2 ^ n * 2 ^ m = 4294967296 := by rw [← Nat.pow_add, show n + m = 32 by omega]
  have hp : 0 < 2 ^ n := Nat.two_pow_pos _
  have hq : 0 < 2 ^ m := Nat.two_pow_pos _
  rw [← hm]
  have e1 : x * 2 ^ m % 4294967296 = 2 ^ m * (x % 2 ^ n) := by rw [← e32, Nat.mul_mod_mul_right, Nat.mul_comm]
  have hlt : x / 2 ^ n < 2 ^ m := by
    rw [Nat.div_lt_iff_lt_mul hp, Nat.mul_comm, e32]; exact hx
  rw [e1, Nat.or_comm, ← Nat.two_pow_add_eq_or_of_lt hlt]
  have e2 : x * 2 ^ m = x / 2 ^ n * 4294967296 + 2 ^ m * (x % 2 ^ n) := by
    conv => lhs; rw [← Nat.div_add_mod x (2 ^ n)]
    rw [Nat.add_mul, ← e32, Nat.mul_comm (2 ^ n) (x / 2 ^ n), Nat.mul_assoc, Nat.mul_comm (x % 2 ^ n)]
  have h2 : 2 ^ m * (x % 2 ^ n) + x / 2 ^ n < 4294967296 := by
    have h3 : 2 ^ m * (x % 2 ^ n + 1) ≤ 2 ^ m * 2 ^ n := Nat.mul_le_mul_left _ (Nat.mod_lt _ hp)
    rw [Nat.mul_comm (2 ^ m) (2 ^ n), e32, Nat.mul_add] at h3
    omega
  rw [e2]
  omega
theorem rotr_toNat (x : UInt32) (n : Nat) : (rotr x n).toNat = (x.toNat / 2 ^ n + x.toNat * 2 ^ (32 - n)) % 4294967296 := by simp [rotr]
theorem rot_or (x : UInt32) (n : Nat) (h0 : 0 < n) (h1 : n < 32) : bits .or .u32 ((x.toNat : Int) / 2 ^ n) ((x.toNat : Int) * 2 ^ (32 - n) % 4294967296) = ((rotr x n).toNat : Int) := by
  have hx := u32_lt x
  have e1 : (x.toNat : Int) / 2 ^ n = ((x.toNat / 2 ^ n : Nat) : Int) := by simp
  have e2 : (x.toNat : Int) * 2 ^ (32 - n) % 4294967296 = ((x.toNat * 2 ^ (32 - n) % 4294967296 : Nat) : Int) := by simp
  have hl : x.toNat / 2 ^ n < 4294967296 := Nat.lt_of_le_of_lt (Nat.div_le_self _ _) hx
  rw [e1, e2, u32_or_nat _ _ hl (by omega), rot_nat _ _ hx h0 h1, rotr_toNat]
theorem rot_or' (x : UInt32) (n : Nat) (h0 : 0 < n) (h1 : n < 32) : bits .or .u32 ((x.toNat : Int) * 2 ^ (32 - n) % 4294967296) ((x.toNat : Int) / 2 ^ n) = ((rotr x n).toNat : Int) := by
  have hx := u32_lt x
  have e1 : (x.toNat : Int) / 2 ^ n = ((x.toNat / 2 ^ n : Nat) : Int) := by simp
  have e2 : (x.toNat : Int) * 2 ^ (32 - n) % 4294967296 = ((x.toNat * 2 ^ (32 - n) % 4294967296 : Nat) : Int) := by simp
  have hl : x.toNat / 2 ^ n < 4294967296 := Nat.lt_of_le_of_lt (Nat.div_le_self _ _) hx
  rw [e1, e2, u32_or_nat _ _ (by omega) hl, Nat.or_comm, rot_nat _ _ hx h0 h1, rotr_toNat]
theorem ret_i {k : IntKind} {a b : Int} (h : a = b) : Ending.returned (.int k a) = .returned (.int k b) := by rw [h]

theorem rrot_any (x : UInt32) (z : Int) (w : World) (h0 : 0 < z) (h1 : z < 32) :
    Calls Tryz.prog 128 #[.int .u32 (x.toNat : Int), .int .u32 z] w fun e w' => e = .returned (.int .u32 ((rotr x z.toNat).toNat : Int)) ∧ w = w' := by
  obtain ⟨n, rfl⟩ := Int.eq_ofNat_of_zero_le (by omega : 0 ≤ z)
  have h0 : 0 < n := by omega
  have h1 : n < 32 := by omega
  go_enter Tryz.func128, Tryz.ntmps128
  go_wp2
  go_ret
  exact ⟨ret_i (rot_or x n h0 h1), rfl⟩
theorem neg_and (n : Nat) (h0 : 0 < n) (h1 : n < 32) : bits .and .u64 (IntKind.u64.wrap (-(n : Int))) 31 = ((32 - n : Nat) : Int) := by
  have e : IntKind.u64.wrap (-(n : Int)) = ((18446744073709551616 - n : Nat) : Int) := by rw [IntKind.wrap_u64]; omega
  rw [e, u64_and _ _ (by omega) (by omega) (by omega) (by omega), Int.toNat_natCast]
  show ((_ &&& (2 ^ 5 - 1) : Nat) : Int) = _
  rw [Nat.and_two_pow_sub_one_eq_mod]
  omega
theorem rol_any (x : UInt32) (n : Nat) (w : World) (h0 : 0 < n) (h1 : n < 32) :
    Calls Tryz.prog 136 #[.int .u32 (x.toNat : Int), .int .i64 (-(n : Int))] w fun e w' => e = .returned (.int .u32 ((rotr x n).toNat : Int)) ∧ w = w' := by
  have hb := neg_and n h0 h1
  have hn : ((32 - n : Nat) : Int) = 32 - (n : Int) := by omega
  have ht : (32 - (n : Int)).toNat = 32 - n := by omega
  have ht2 : (32 - (32 - (n : Int))) = n := by omega
  have i0 : (0 : Int) < n := by omega
  have i1 : (n : Int) < 32 := by omega
  rw [hn] at hb
  clear hn
  go_enter Tryz.func136, Tryz.ntmps136
  go_wp2
  go_ret
  exact ⟨ret_i (rot_or' x n h0 h1), rfl⟩
theorem right_any (x : UInt32) (z : Int) (w : World) (h0 : 0 < z) (h1 : z < 32) :
    Calls Tryz.prog 135 #[.int .u32 (x.toNat : Int), .int .i64 z] w fun e w' => e = .returned (.int .u32 ((rotr x z.toNat).toNat : Int)) ∧ w = w' := by
  obtain ⟨n, rfl⟩ := Int.eq_ofNat_of_zero_le (by omega : 0 ≤ z)
  have g0 : 0 < n := by omega
  have g1 : n < 32 := by omega
  go_enter Tryz.func135, Tryz.ntmps135
  go_wp2_with (go_at_call 136; refine (rol_any x n _ g0 g1).mono ?_; rintro e w' ⟨rfl, rfl⟩)
  go_ret
  exact ⟨rfl, rfl⟩

theorem u32_shr3 (x : UInt32) : (x.toNat : Int) / 8 = ((shr x 3).toNat : Int) := by have := u32_lt x; simp [shr]; omega
theorem u32_shr10 (x : UInt32) : (x.toNat : Int) / 1024 = ((shr x 10).toNat : Int) := by have := u32_lt x; simp [shr]; omega

section
attribute [local go_sem] u32_add u32_sub u32_band u32_bxor u32_shr3 u32_shr10
theorem mixLate_any (x : UInt32) (w : World) :
    Calls Tryz.prog 133 #[.int .u32 (x.toNat : Int)] w fun e w' => e = .returned (.int .u32 ((smL x).toNat : Int)) ∧ w = w' := by
  go_enter Tryz.func133, Tryz.ntmps133
  go_wp2_with (go_at_call 135; refine (right_any x _ _ (by omega) (by omega)).mono ?_; rintro e w' ⟨rfl, rfl⟩)
  go_ret
  exact ⟨rfl, rfl⟩
theorem mixEarly_any (x : UInt32) (w : World) :
    Calls Tryz.prog 134 #[.int .u32 (x.toNat : Int)] w fun e w' => e = .returned (.int .u32 ((smE x).toNat : Int)) ∧ w = w' := by
  go_enter Tryz.func134, Tryz.ntmps134
  go_wp2_with (go_at_call 135; refine (right_any x _ _ (by omega) (by omega)).mono ?_; rintro e w' ⟨rfl, rfl⟩)
  go_ret
  exact ⟨rfl, rfl⟩
theorem mixA_any (x : UInt32) (w : World) :
    Calls Tryz.prog 132 #[.int .u32 (x.toNat : Int)] w fun e w' => e = .returned (.int .u32 ((bgA x).toNat : Int)) ∧ w = w' := by
  go_enter Tryz.func132, Tryz.ntmps132
  go_wp2_with (go_at_call 135; refine (right_any x _ _ (by omega) (by omega)).mono ?_; rintro e w' ⟨rfl, rfl⟩)
  go_ret
  exact ⟨rfl, rfl⟩
theorem mixE_any (x : UInt32) (w : World) :
    Calls Tryz.prog 131 #[.int .u32 (x.toNat : Int)] w fun e w' => e = .returned (.int .u32 ((bgE x).toNat : Int)) ∧ w = w' := by
  go_enter Tryz.func131, Tryz.ntmps131
  go_wp2_with (go_at_call 135; refine (right_any x _ _ (by omega) (by omega)).mono ?_; rintro e w' ⟨rfl, rfl⟩)
  go_ret
  exact ⟨rfl, rfl⟩
end
end Go.Proofs.YtnoflgkjdibblaaGreatDoor.S2

/-
  Blocks of memory that are known whole. Plain lemmas, no statement is proved here.
-/
namespace Go.Proofs.YtnoflgkjdibblaaGreatDoor
set_option linter.unusedSimpArgs false
set_option linter.unusedVariables false
set_option maxRecDepth 1024
open Go.RowKit

/-- Block g is just these cells. -/
def Bk (w : World) (g : Nat) (t : TypeId) (cs : Array Value) : Prop := w.heap[g]? = some (.cells cs t (0, 0))
section
variable {w w' : World} {g : Nat} {t : TypeId} {cs : Array Value}
theorem Bk.lt (h : Bk w g t cs) : g < w.heap.size := by
  rcases Nat.lt_or_ge g w.heap.size with hlt | hge
  · exact hlt
  · unfold Bk at h; rw [Array.getElem?_eq_none hge] at h; cases h
theorem Bk.cell (h : Bk w g t cs) (i : Nat) : w.cell? ⟨g, i, none⟩ = cs[i]? := cell_of_row w g i cs t (0, 0) h
theorem Bk.frozen (h : Bk w g t cs) (i : Nat) : w.frozen? ⟨g, i, none⟩ = false := by
  unfold Bk at h
  simp [World.frozen?, h]
theorem Bk.new (w : World) (t : TypeId) (cs : Array Value) : Bk (w.alloc (.cells cs t)) w.heap.size t cs := heap_alloc_new w _
theorem Bk.newAt (w : World) (t : TypeId) (cs : Array Value) (b : Nat) (h : w.heap.size = b) : Bk (w.alloc (.cells cs t)) b t cs := by subst h; exact heap_alloc_new w _
theorem Bk.drewN (h : Bk w g t cs) (n : Nat) : Bk (w.drewN n) g t cs := h
theorem Bk.drew (h : Bk w g t cs) : Bk w.drew g t cs := h
theorem Bk.alloc (h : Bk w g t cs) (o : Obj) : Bk (w.alloc o) g t cs := (Below.heap_alloc w o g h.lt).trans h
theorem Bk.put (h : Bk w g t cs) (i : Nat) (u : Value) : Bk (w.setCell ⟨g, i, none⟩ u) g t (cs.setIfInBounds i u) := by
  unfold Bk at h ⊢
  simp [World.setCell, Array.getElem?_modify, h]
theorem Bk.far (h : Bk w g t cs) {p : Addr} (hp : g ≠ p.block) (u : Value) : Bk (w.setCell p u) g t cs := (Below.heap_setCell w p u g hp).trans h
theorem Bk.below {B : Nat} (h : Bk w g t cs) (hb : Below B w w') (hg : g < B) : Bk w' g t cs := (hb.block g hg).trans h
theorem Bk.only {row : Option Nat} (h : Bk w g t cs) (hb : w.grownBy w' row) (hg : some g ≠ row) : Bk w' g t cs := (hb.block g h.lt hg).trans h
end
theorem below_drewN {B : Nat} {a w : World} (h : Below B a w) (n : Nat) : Below B a (w.drewN n) := ⟨h.os, h.tape, h.output, h.size, h.block⟩
theorem only_drewN {a w : World} {row : Option Nat} (h : a.grownBy w row) (n : Nat) : a.grownBy (w.drewN n) row := ⟨h.os, h.tape, h.output, h.size, h.block⟩
theorem only_put {a w : World} {g : Nat} (h : a.grownBy w (some g)) {p : Addr} (hp : p.block = g ∨ a.heap.size ≤ p.block) (u : Value) : a.grownBy (w.setCell p u) (some g) :=
  ⟨h.os, h.tape, h.output, by simpa [World.setCell] using h.size, fun i hi hne => (Below.heap_setCell w p u i (by
    rintro rfl
    rcases hp with hp | hp
    · exact hne (by rw [hp])
    · omega)).trans (h.block i hi hne)⟩
theorem only_below {a w w' : World} {row : Option Nat} (h : a.grownBy w row) (hb : Below w.heap.size w w') : a.grownBy w' row :=
  ⟨hb.os.trans h.os, hb.tape.trans h.tape, hb.output.trans h.output, Nat.le_trans h.size hb.size, fun i hi hne => (hb.block i (Nat.lt_of_lt_of_le hi h.size)).trans (h.block i hi hne)⟩
theorem only_trans {a w w' : World} {g : Nat} (h : a.grownBy w (some g)) (hb : w.grownBy w' (some g)) : a.grownBy w' (some g) :=
  ⟨hb.os.trans h.os, hb.tape.trans h.tape, hb.output.trans h.output, Nat.le_trans h.size hb.size, fun i hi hne => (hb.block i (Nat.lt_of_lt_of_le hi h.size) hne).trans (h.block i hi hne)⟩
/-- What alone turned is new to the world of before. -/
theorem below_only {a w w' : World} {g : Nat} {B : Nat} (h : Below B a w) (hb : w.grownBy w' (some g)) (hg : B ≤ g) (hs : B ≤ w.heap.size) : Below B a w' :=
  ⟨hb.os.trans h.os, hb.tape.trans h.tape, hb.output.trans h.output, Nat.le_trans h.size hb.size, fun i hi => (hb.block i (by omega) (by rintro e; injection e with e; omega)).trans (h.block i hi)⟩

theorem Bk.row {w : World} {g : Nat} {t : TypeId} {cs : Array Value} (h : Bk w g t cs) (cs' : Array Value) : Bk (w.setRow g cs') g t cs' := setRow_heap w g cs cs' t (0, 0) h
theorem Bk.rowFar {w : World} {g g' : Nat} {t : TypeId} {cs : Array Value} (h : Bk w g t cs) (hne : g ≠ g') (cs' : Array Value) : Bk (w.setRow g' cs') g t cs := (setRow_other w g' g cs' hne).trans h
theorem Bk.range {w : World} {g : Nat} {t : TypeId} {L M R : List Value} (h : Bk w g t (L ++ M ++ R).toArray) : w.rangeAt g L.length M := fun j v hv => by
  have hj : j < M.length := (List.getElem?_eq_some_iff.1 hv).1
  rw [h.cell, List.getElem?_toArray, List.append_assoc, List.getElem?_append_right (by omega), List.getElem?_append_left (by omega), ← hv]
  congr 1
  omega
theorem Bk.there {w : World} {g : Nat} {t : TypeId} {cs : Array Value} (h : Bk w g t cs) (o n : Nat) (hn : o + n ≤ cs.size) : w.there g o n := fun j hj =>
  ⟨by rw [h.cell, Array.getElem?_eq_getElem (by omega)]; rfl, h.frozen _⟩
theorem Bk.puts {g : Nat} {t : TypeId} : ∀ (vs L M R : List Value) (w : World), Bk w g t (L ++ M ++ R).toArray → M.length = vs.length → Bk (w.setCells g L.length vs) g t (L ++ vs ++ R).toArray
  | [], L, M, R, w, h, hl => by
    obtain rfl : M = [] := List.eq_nil_of_length_eq_zero hl
    exact h
  | v :: vs, L, [], R, w, h, hl => by simp at hl
  | v :: vs, L, m :: M, R, w, h, hl => by
    rw [World.setCells]
    have h1 := h.put L.length v
    have e : (L ++ m :: M ++ R).toArray.setIfInBounds L.length v = ((L ++ [v]) ++ M ++ R).toArray := by
      simp [List.set_append_right]
    rw [e] at h1
    have h2 := Bk.puts vs (L ++ [v]) M R _ h1 (by simpa using hl)
    simpa using h2
theorem quiet_l {P : Program} {f : FuncId} {args : Array Value} {w : World} {n : Nat} {v : Value} (h : Calls P f args (w.drewN n) fun e w' => e = .returned v ∧ w.drewN n = w') :
    Calls P f args (w.drewN n) fun e w'' => e = .returned v ∧ ∃ m, w'' = w.drewN m := h.mono fun _ _ h => ⟨h.1, n, h.2.symm⟩
theorem quiet_al {P : Program} {f : FuncId} {args : Array Value} {w : World} {a n : Nat} {v : Value} (h : Calls P f args (w.drewN (a + n)) fun e w' => e = .returned v ∧ w.drewN (a + n) = w') :
    Calls P f args (w.drewN (a + n)) fun e w'' => e = .returned v ∧ ∃ m, w'' = w.drewN (a + m) := h.mono fun _ _ h => ⟨h.1, n, h.2.symm⟩
end Go.Proofs.YtnoflgkjdibblaaGreatDoor

/-
  Bytes that lie in a block that is known whole. Plain lemmas, no statement is proved here.
-/
namespace Go.Proofs.YtnoflgkjdibblaaGreatDoor
set_option linter.unusedSimpArgs false
set_option linter.unusedVariables false
set_option maxRecDepth 1024
open Go.RowKit

/-- Bytes that lie in a block. -/
theorem Rd.of_bk {w : World} {g : Nat} {t : TypeId} {cs : Array Value} (h : Bk w g t cs) {off n c : Nat} {ys : List UInt8} (hl : ys.length = n) (hc : n ≤ c) (hm : c ≤ maxLen)
    (hcell : ∀ j, j < n → cs[off + j]? = some (.int .u8 ((ys.getD j 0).toNat : Int))) : Rd w (some ⟨g, off, none⟩) n c ys :=
  ⟨hl, hc, hm, (fun e => by cases e), fun _ => ⟨g, off, rfl, h.lt, fun j hj => (h.cell _).trans (hcell j hj)⟩⟩
theorem bv_getElem? (xs : List UInt8) (i : Nat) (h : i < xs.length) : (bv xs).toArray[i]? = some (.int .u8 ((xs.getD i 0).toNat : Int)) := by
  simp [bv, h, List.getD]
end Go.Proofs.YtnoflgkjdibblaaGreatDoor

/-
  What the calls of package octet do: numbers as bytes, and rows of bytes.
-/
namespace Go.Proofs.YtnoflgkjdibblaaGreatDoor
set_option linter.unusedSimpArgs false
set_option linter.unusedVariables false
set_option maxRecDepth 1024
open Go.RowKit

theorem put_step (k n V : Nat) (hk : 0 < k) (hn : k ≤ n) :
    (bv (List.replicate k 0 ++ putL V (n - k))).set (k - 1) (.int .u8 ((V : Int) / 256 ^ (n - k) % 256)) = bv (List.replicate (k - 1) 0 ++ putL V (n - (k - 1))) := by
  obtain ⟨k, rfl⟩ : ∃ m, k = m + 1 := ⟨k - 1, by omega⟩
  have e : n - (k + 1 - 1) = (n - (k + 1)) + 1 := by omega
  have hv : ((V : Int) / 256 ^ (n - (k + 1)) % 256) = ((UInt8.ofNat (V / 256 ^ (n - (k + 1)))).toNat : Int) := by simp
  rw [hv, bv_set, e, putL]
  congr 1
  rw [show k + 1 - 1 = k from rfl, List.replicate_succ', List.append_assoc, List.set_append_right _ _ (by simp)]
  simp

theorem put_next (k n V : Nat) (hk : 0 < k) (hn : k ≤ n) : Value.int .u64 ((V : Int) / 256 ^ (n - k) / 256) = .int .u64 ((V / 256 ^ (n - (k - 1)) : Nat) : Int) := by
  have e : n - (k - 1) = (n - k) + 1 := by omega
  rw [e, Nat.pow_succ, ← Nat.div_div_eq_div_mul]
  simp

/-- octet.Put, n in 0 to 8: n bytes in new memory. -/
theorem put_any (V n : Nat) (w : World) (hn : n ≤ 8) (hV : V < 18446744073709551616) :
    Calls Tryz.prog 86 #[.int .u64 (V : Int), .int .i64 (n : Int)] w (New w.heap.size w (putL V n)) := by
  obtain ⟨i0, hi, hz0, hz1, hz2⟩ := info_parts Tryz.infoU8
  go_enter Tryz.func86, Tryz.ntmps86
  go_wp2_with (at_make; refine wpList_make_full _ rfl _ _ 23 rfl w.heap.size 5 i0 (.int .u8 0) 1 Tryz.underlying23 hi hz0 hz1 _ _ _ _ n rfl rfl rfl rfl ?b2 ?b3 (Nat.le_refl _) ?_)
  case b2 => rw [hz2]; omega
  case b3 => unfold maxLen; omega
  intro w0 hown0 hgrow0
  rw [bv_zero] at hown0
  have hb0 : Below w.heap.size w w0 := (Below.refl _ _).grown hgrow0 (Nat.le_refl _) (fun k h => by cases h)
  clear hgrow0
  go_wp2
  go_loopw [0, 6] (fun v i wr => ∃ k : Nat, k ≤ n ∧ i = .int .i64 ((k : Int) - 1) ∧ v = .int .u64 ((V / 256 ^ (n - k) : Nat) : Int) ∧
      wr.ownsRow w.heap.size 5 1 (.slice (some ⟨w.heap.size, 0, none⟩) n n) n (bv (List.replicate k 0 ++ putL V (n - k))) ∧ Below w.heap.size w wr)
    (fun _ i _ => (intOf i + 1).toNat)
  case atStart => exact ⟨n, Nat.le_refl _, rfl, by simp, by simpa [putL] using hown0, hb0⟩
  case round =>
    obtain ⟨k, hk, rfl, rfl, hown, hbel⟩ := hrel
    by_cases hk0 : 0 < k
    · have hc := hown.cellAt (k - 1) (by omega)
      have hf := hown.frozenAt (k - 1)
      have hs := hown.stored (k - 1)
      rw [bv_at _ _ (by simp [putL_length]; omega)] at hc
      go_wp2
      go_roundw
      case rel =>
        exact ⟨k - 1, by omega, by go_num, put_next k n V hk0 hk, by rw [← put_step k n V hk0 hk]; exact (hs _).1, hbel.setCell (Nat.le_refl _) _⟩
      case measure => simp [intOf]; omega
    · go_wp2
      go_ret
      obtain rfl : k = 0 := by omega
      exact ⟨_, _, _, rfl, by simpa using hown, hbel⟩

theorem get_step (xs : List UInt8) (k : Nat) (hk : k < xs.length) (h8 : k < 8) :
    bits .or .u64 (IntKind.u64.wrap ((getL (xs.take k) : Nat) * 256)) (IntKind.u64.wrap ((xs[k]?.getD 0).toNat : Int)) = (getL (xs.take (k + 1)) : Nat) := by
  have hg := getL_lt (xs.take k)
  rw [List.length_take, Nat.min_eq_left (by omega)] at hg
  have h7 : 256 ^ k ≤ 256 ^ 7 := Nat.pow_le_pow_right (by omega) (by omega)
  have hc := (xs[k]'hk).toNat_lt
  have e1 : IntKind.u64.wrap (((getL (xs.take k) : Nat) : Int) * 256) = ((getL (xs.take k) * 256 : Nat) : Int) := by
    rw [IntKind.wrap_u64]; omega
  have e2 : IntKind.u64.wrap ((xs[k]?.getD 0).toNat : Int) = (((xs[k]'hk).toNat : Nat) : Int) := by
    rw [IntKind.wrap_u64, List.getElem?_eq_getElem hk]; simp only [Option.getD_some]; omega
  rw [e1, e2, u64_or_nat _ _ (by omega) (by omega), nat_join 8 _ _ (by omega) (by omega), List.take_succ_eq_append_getElem hk, getL_snoc]

theorem get_any (A : Option Addr) (n c : Nat) (xs : List UInt8) (w : World) (hn : n ≤ 8) (h : Rd w A n c xs) :
    Calls Tryz.prog 109 #[.slice A n c] w fun e w' => e = .returned (.tuple #[.int .u64 (getL xs : Nat), .bool true]) ∧ w = w' := by
  go_enter Tryz.func109, Tryz.ntmps109
  go_wp2
  go_loop [4, 12] (fun v i => ∃ k : Nat, k ≤ n ∧ i = .int .i64 k ∧ v = .int .u64 (getL (xs.take k) : Nat)) (fun _ i => n - (intOf i).toNat)
  case atStart => exact ⟨0, Nat.zero_le _, rfl, rfl⟩
  case round =>
    obtain ⟨k, hk, rfl, rfl⟩ := hrel
    by_cases hlt : k < n
    · obtain ⟨b, off, rfl, hb, hcell⟩ := h.at_ (by omega)
      have hc := hcell k hlt
      clear hcell
      have hg := getL_lt (xs.take k)
      go_wp2
      go_round
      case rel =>
        exact ⟨k + 1, by omega, by go_num, by rw [get_step xs k (by have := h.len; omega) (by omega)]⟩
      case measure => simp [intOf]; omega
    · obtain rfl : k = n := by omega
      go_wp2
      go_ret2
      have e := h.len
      exact ⟨by rw [List.take_of_length_le (by omega)]; rfl, rfl⟩
end Go.Proofs.YtnoflgkjdibblaaGreatDoor
