/-
  Words of this seat's proofs: rows of bytes in memory, as lists of UInt8. Plain lemmas, no statement is proved here.
-/
import Derived.Test.YtccnbepccajdoaaDoorRows
import Derived.WalkKit
import Derived.WalkSpells
import Derived.WalkLawsBesides
import Derived.Laws.AppendOwnNone
import Derived.Lib.Hide
namespace Go.Proofs.YtccnbepccajdoaaDoor
set_option linter.unusedSimpArgs false
set_option linter.unusedVariables false
set_option maxRecDepth 1024
open Go.RowKit

theorem Tryd.infoU8 : (Tryd.prog.info? 5).map (fun i => (i.zero, i.size, i.bytes)) = some (some (.int .u8 0), 1, 1) := by kernel_rfl

/-- A row of bytes as values. -/
def bv (xs : List UInt8) : List Value := xs.map fun b => Value.int .u8 (b.toNat : Int)
theorem bv_length (xs : List UInt8) : (bv xs).length = xs.length := by simp [bv]
theorem bv_append (xs ys : List UInt8) : bv (xs ++ ys) = bv xs ++ bv ys := by simp [bv]
theorem bv_set (xs : List UInt8) (i : Nat) (b : UInt8) : (bv xs).set i (.int .u8 (b.toNat : Int)) = bv (xs.set i b) := by simp [bv, List.map_set]
theorem bv_at (xs : List UInt8) (i : Nat) (h : i < xs.length) : (bv xs)[i]? = some (.int .u8 (xs[i].toNat : Int)) := by simp [bv, h]
theorem bv_one (xs : List UInt8) : ∀ u ∈ bv xs, u.oneCell' = true := by
  intro u hu
  simp only [bv, List.mem_map] at hu
  obtain ⟨b, _, rfl⟩ := hu
  rfl
theorem bv_zero (n : Nat) : (madeCells #[Value.int .u8 0] n).toList = bv (List.replicate n 0) := by
  rw [toList_madeCells_one]
  simp [bv]
theorem u8_lt (b : UInt8) : b.toNat < 256 := b.toNat_lt

/-- The slice value of address A, length n and capacity c reads as the bytes xs. -/
structure Rd (w : World) (A : Option Addr) (n c : Nat) (xs : List UInt8) : Prop where
  len : xs.length = n
  cap : n ≤ c
  max : c ≤ maxLen
  nil : A = none → c = 0
  at_ : 0 < n → ∃ b off, A = some ⟨b, off, none⟩ ∧ b < w.heap.size ∧ ∀ j, j < n → w.cell? ⟨b, off + j, none⟩ = some (.int .u8 ((xs.getD j 0).toNat : Int))

theorem Rd.keep {w w' : World} {A : Option Addr} {n c : Nat} {xs : List UInt8} (h : Rd w A n c xs) (hs : w.heap.size ≤ w'.heap.size)
    (hk : ∀ p : Addr, p.block < w.heap.size → w'.cell? p = w.cell? p) : Rd w' A n c xs :=
  ⟨h.len, h.cap, h.max, h.nil, fun hn => by
    obtain ⟨b, off, e, hb, hc⟩ := h.at_ hn
    exact ⟨b, off, e, Nat.lt_of_lt_of_le hb hs, fun j hj => (hk _ hb).trans (hc j hj)⟩⟩
theorem Rd.below {w w' : World} {A : Option Addr} {n c : Nat} {xs : List UInt8} (h : Rd w A n c xs) (hb : Below w.heap.size w w') : Rd w' A n c xs :=
  h.keep hb.size fun _ hp => hb.cell hp
theorem Rd.alloc {w : World} {A : Option Addr} {n c : Nat} {xs : List UInt8} (h : Rd w A n c xs) (o : Obj) : Rd (w.alloc o) A n c xs :=
  h.below ((Below.refl _ _).alloc (Nat.le_refl _) o)
theorem Rd.drew {w : World} {A : Option Addr} {n c : Nat} {xs : List UInt8} (h : Rd w A n c xs) : Rd w.drew A n c xs := h.below (Below.refl _ _).drew
theorem Rd.nil_ (w : World) : Rd w none 0 0 [] := ⟨rfl, Nat.le_refl _, by simp [maxLen], fun _ => rfl, fun h => absurd h (by omega)⟩
/-- What is owned reads. -/
theorem Rd.own {w : World} {B e n : Nat} {A : Option Addr} {c : Nat} {xs : List UInt8} (h : w.ownsRow B e 1 (.slice A n c) n (bv xs)) : Rd w A n c xs := by
  have hl : xs.length = n := by have := h.1; simp [bv_length] at this; exact this
  rcases h.2 with ⟨hv, hn⟩ | ⟨g, cap, cur, hv, _, hh, hnc, hcm, _, htake⟩
  · injection hv with h1 h2 h3
    subst h1 h2 h3
    have : xs = [] := List.eq_nil_of_length_eq_zero hl
    subst this
    exact Rd.nil_ w
  · injection hv with h1 h2 h3
    subst h1 h3
    refine ⟨hl, hnc, hcm, (fun h => by cases h), fun hn => ⟨g, 0, rfl, (Array.getElem?_eq_some_iff.1 hh).1, fun j hj => ?_⟩⟩
    have := h.cellAt j (by omega)
    rw [Nat.zero_add, this, bv_at xs j (by omega)]
    simp [List.getD, hl ▸ hj]

/-- s[lo:hi], as the model spells the address. -/
theorem Rd.cut {w : World} {A : Option Addr} {n c : Nat} {xs : List UInt8} (h : Rd w A n c xs) {k : Nat} (hk : k ≤ n) :
    Rd w (if c = k then A else A.map (·.add k)) (n - k) (c - k) (xs.drop k) := by
  have hc := h.cap
  refine ⟨by simp [h.len], by omega, by have := h.max; omega, fun e => ?_, fun hn => ?_⟩
  · split at e
    · have := h.nil e; omega
    · have : A = none := by simpa using e
      have := h.nil this; omega
  · obtain ⟨b, off, rfl, hb, hcell⟩ := h.at_ (by omega)
    rw [if_neg (by omega)]
    refine ⟨b, off + k, ?_, hb, fun j hj => ?_⟩
    · simp only [Option.map_some, Addr.add]
      split
      · subst_vars; rfl
      · rfl
    · have := hcell (k + j) (by omega)
      rw [Nat.add_assoc, this]
      simp [List.getD, List.getElem?_drop]
theorem Rd.take {w : World} {A : Option Addr} {n c : Nat} {xs : List UInt8} (h : Rd w A n c xs) {k : Nat} (hk : k ≤ n) : Rd w A k c (xs.take k) := by
  have hl := h.len
  have hc := h.cap
  refine ⟨by simp; omega, by omega, h.max, h.nil, fun hn => ?_⟩
  obtain ⟨b, off, rfl, hb, hcell⟩ := h.at_ (by omega)
  refine ⟨b, off, rfl, hb, fun j hj => ?_⟩
  rw [hcell j (by omega)]
  simp [List.getD, List.getElem?_take, hj]

theorem own_form {w : World} {B e n : Nat} {v : Value} {xs : List Value} (h : w.ownsRow B e 1 v n xs) : ∃ (A : Option Addr) (c : Nat), v = .slice A n c := by
  rcases h.2 with ⟨rfl, rfl⟩ | ⟨g, cap, cur, rfl, _⟩
  · exact ⟨none, 0, rfl⟩
  · exact ⟨_, _, rfl⟩
theorem own_len {w : World} {B e n : Nat} {v : Value} {xs : List UInt8} (h : w.ownsRow B e 1 v n (bv xs)) : xs.length = n := by
  have := h.1; simp [bv_length] at this; exact this

/-- 'out = append(out, p...)': out nil or the call's own, p whatever bytes. -/
theorem append_rd {w : World} {ops : Array Oper} {rest : List Oper} {o : Oper} {a : Act} {Q : Exit → Act → World → Prop} (hgd : o.guard = none) (s x : Operand)
    (ho : o.op = .call { callee := .builtin .append, args := #[s, x], argTypes := #[36, 36] })
    (base : Nat) (v : Value) (n : Nat) (xs : List UInt8) (hs : a.eval s = v) (hown : w.ownsRow base 5 1 v n (bv xs))
    (A : Option Addr) (m c : Nat) (ys : List UInt8) (hx : a.eval x = .slice A m c) (hr : Rd w A m c ys) (hb : n + m ≤ 140737488355328) (hbase : base ≤ w.heap.size)
    (h : ∀ v' w', w'.ownsRow base 5 1 v' (n + m) (bv (xs ++ ys)) → w.grownBy w' v.ownBlock → wpList Tryd.prog ops Q rest (a.put o.dst v') w') : wpList Tryd.prog ops Q (o :: rest) a w := by
  obtain ⟨i0, hi, hz0, hz1, hz2⟩ := info_parts Tryd.infoU8
  rcases A with _ | ad
  · have hc := hr.nil rfl
    have hm : m = 0 := by have := hr.cap; omega
    subst hc hm
    obtain rfl : ys = [] := List.eq_nil_of_length_eq_zero hr.len
    exact wpList_append_own_none hgd s x _ ho base 5 i0 1 Tryd.underlying36 hi v n (bv xs) hs hown hx (h v w (by simpa using hown) (World.grownBy.refl _ _))
  · refine wpList_append_own w hgd s x _ ho base 5 i0 (.int .u8 0) 1 1 Tryd.underlying36 hi hz0 hz1 hz2 rfl (by omega) v n (bv xs) hs hown ad m c (bv ys) hx (by simp [bv_length, hr.len]) ?_ (bv_one _)
      (by simp only [maxLen]; omega) (by omega) hbase fun v' w' h1 h2 _ => h v' w' (by rw [bv_append]; exact h1) h2
    intro j u hj
    have hl := hr.len
    have hjl : j < ys.length := by
      rcases Nat.lt_or_ge j ys.length with h | h
      · exact h
      · rw [List.getElem?_eq_none (by simpa [bv_length] using h)] at hj; cases hj
    obtain ⟨b, off, e, _, hc⟩ := hr.at_ (by omega)
    replace e := Option.some.inj e
    subst e
    have hp : (⟨b, off, none⟩ : Addr).add j = ⟨b, off + j, none⟩ := by unfold Addr.add; split <;> simp_all
    rw [bv_at ys j hjl] at hj
    rw [hp, hc j (by omega), ← hj]
    simp [List.getD, hjl]

/-- A slice of rows of bytes reads as xss. -/
structure RdBs (w : World) (A : Option Addr) (n c : Nat) (xss : List (List UInt8)) : Prop where
  len : xss.length = n
  cap : n ≤ c
  max : c ≤ maxLen
  nil : A = none → c = 0
  at_ : 0 < n → ∃ b off, A = some ⟨b, off, none⟩ ∧ b < w.heap.size ∧ ∀ j, j < n → ∃ A' n' c', w.cell? ⟨b, off + j, none⟩ = some (.slice A' n' c') ∧ Rd w A' n' c' (xss[j]?.getD [])
theorem RdBs.below {w w' : World} {A : Option Addr} {n c : Nat} {xss : List (List UInt8)} (h : RdBs w A n c xss) (hb : Below w.heap.size w w') : RdBs w' A n c xss :=
  ⟨h.len, h.cap, h.max, h.nil, fun hn => by
    obtain ⟨b, off, e, hlt, hc⟩ := h.at_ hn
    refine ⟨b, off, e, Nat.lt_of_lt_of_le hlt hb.size, fun j hj => ?_⟩
    obtain ⟨A', n', c', h1, h2⟩ := hc j hj
    exact ⟨A', n', c', (hb.cell (p := ⟨b, off + j, none⟩) hlt).trans h1, h2.below hb⟩⟩
theorem RdBs.nil_ (w : World) : RdBs w none 0 0 [] := ⟨rfl, Nat.le_refl _, by simp [maxLen], fun _ => rfl, fun h => absurd h (by omega)⟩

/-- A slice of slices that is written out. -/
theorem RdBs.built (w : World) (cs : Array Value) (T : TypeId) (xss : List (List UInt8)) (hn : xss.length ≤ maxLen)
    (h : ∀ j, j < xss.length → ∃ A n c, cs[j]? = some (.slice A n c) ∧ Rd w A n c (xss[j]?.getD [])) :
    RdBs (w.alloc (.cells cs T)) (some ⟨w.heap.size, 0, none⟩) xss.length xss.length xss :=
  ⟨rfl, Nat.le_refl _, hn, (fun h => by cases h), fun _ => ⟨w.heap.size, 0, rfl, by simp, fun j hj => by
    obtain ⟨A, n, c, h1, h2⟩ := h j hj
    exact ⟨A, n, c, by rw [Nat.zero_add, World.cell?_alloc_at cs T _ j rfl]; exact h1, h2.alloc _⟩⟩⟩
theorem RdBs.built1 (w : World) (T : TypeId) {A : Option Addr} {n c : Nat} {xs : List UInt8} (h : Rd w A n c xs) :
    RdBs (w.alloc (.cells #[.slice A n c] T)) (some ⟨w.heap.size, 0, none⟩) 1 1 [xs] :=
  RdBs.built w _ T [xs] (by simp [maxLen]) fun j hj => by
    obtain rfl : j = 0 := by simpa using hj
    exact ⟨A, n, c, rfl, h⟩
theorem RdBs.built2 (w : World) (T : TypeId) {A A' : Option Addr} {n c n' c' : Nat} {xs ys : List UInt8} (h : Rd w A n c xs) (h' : Rd w A' n' c' ys) :
    RdBs (w.alloc (.cells #[.slice A n c, .slice A' n' c'] T)) (some ⟨w.heap.size, 0, none⟩) 2 2 [xs, ys] :=
  RdBs.built w _ T [xs, ys] (by simp [maxLen]) fun j hj => by
    match j, hj with
    | 0, _ => exact ⟨A, n, c, rfl, h⟩
    | 1, _ => exact ⟨A', n', c', rfl, h'⟩

/-- Bytes in new memory are handed back. -/
def New (B : Nat) (w : World) (xs : List UInt8) (e : Ending) (w' : World) : Prop :=
  ∃ (A : Option Addr) (n c : Nat), e = .returned (.slice A n c) ∧ w'.ownsRow B 5 1 (.slice A n c) n (bv xs) ∧ Below B w w'
theorem New.mk {B : Nat} {w w' : World} {v : Value} {n : Nat} {xs : List UInt8} (h : w'.ownsRow B 5 1 v n (bv xs)) (hb : Below B w w') : New B w xs (.returned v) w' := by
  obtain ⟨A, c, rfl⟩ := own_form h
  exact ⟨A, n, c, rfl, h, hb⟩
theorem New.mono {B B' : Nat} {w : World} {xs : List UInt8} {e : Ending} {w' : World} (h : New B w xs e w') (hB : B' ≤ B) : New B' w xs e w' := by
  obtain ⟨A, n, c, he, ho, hb⟩ := h
  refine ⟨A, n, c, he, ⟨ho.1, ?_⟩, hb.mono hB⟩
  rcases ho.2 with h | ⟨g, cap, cur, h1, h2, h3⟩
  · exact .inl h
  · exact .inr ⟨g, cap, cur, h1, Nat.le_trans hB h2, h3⟩

theorem New.from {w W : World} {xs : List UInt8} {e : Ending} {w' : World} (hb : Below w.heap.size w W) (h : New W.heap.size W xs e w') : New w.heap.size w xs e w' := by
  obtain ⟨A, n, c, he, ho, hbb⟩ := h.mono hb.size
  exact ⟨A, n, c, he, ho, hb.trans hbb⟩

/-- v's last n bytes, the greatest first. -/
def putL (v : Nat) : Nat → List UInt8
  | 0 => []
  | j + 1 => UInt8.ofNat (v / 256 ^ j) :: putL v j
theorem putL_length (v n : Nat) : (putL v n).length = n := by induction n with
  | zero => rfl
  | succ n ih => simp [putL, ih]
/-- The number that bytes are. -/
def getL (xs : List UInt8) : Nat := xs.foldl (fun v c => v * 256 + c.toNat) 0
theorem getL_snoc (xs : List UInt8) (c : UInt8) : getL (xs ++ [c]) = getL xs * 256 + c.toNat := by simp [getL]
theorem getL_from (xs : List UInt8) : ∀ a : Nat, xs.foldl (fun v c => v * 256 + c.toNat) a < (a + 1) * 256 ^ xs.length := by
  induction xs with
  | nil => intro a; simp
  | cons c xs ih =>
    intro a
    simp only [List.foldl_cons, List.length_cons]
    have h := ih (a * 256 + c.toNat)
    have hc := c.toNat_lt
    have h2 : (a * 256 + c.toNat + 1) * 256 ^ xs.length ≤ ((a + 1) * 256) * 256 ^ xs.length := Nat.mul_le_mul_right _ (by omega)
    have h3 : (a + 1) * 256 ^ (xs.length + 1) = ((a + 1) * 256) * 256 ^ xs.length := by rw [Nat.pow_succ]; ac_rfl
    omega
theorem getL_lt (xs : List UInt8) : getL xs < 256 ^ xs.length := by simpa [getL] using getL_from xs 0

end Go.Proofs.YtccnbepccajdoaaDoor
