/-
  Texts put together: Int, DigC, DigS, DigR. No statement is proved here.
-/
import Derived.Test.YtnejepidbahjdaaDoorWm01
import Derived.Test.YtnejepidbahjdaaDoorWm02
import Derived.Deep.DrawnRows
import Derived.Deep.AppendLies
import Derived.Lib.Hide
import Derived.OwnWalk

/-
  Rows of whole numbers that read so, and append to such a row. No statement is proved here.
-/
namespace Go.Proofs.YtnejepidbahjdaaDoor
set_option linter.unusedSimpArgs false
set_option linter.unusedVariables false
set_option maxRecDepth 1024
open Go.RowKit

theorem Tryd.infoI : (Tryd.prog.info? 3).map (fun i => (i.zero, i.size, i.bytes)) = some (some (.int .i64 0), 1, 8) := by kernel_rfl
/-- A row of numbers as values. -/
def iv (xs : List Nat) : List Value := xs.map fun (b : Nat) => Value.int .i64 (b : Int)
theorem iv_length (xs : List Nat) : (iv xs).length = xs.length := by simp [iv]
theorem iv_append (xs ys : List Nat) : iv (xs ++ ys) = iv xs ++ iv ys := by simp [iv]
theorem iv_at (xs : List Nat) (i : Nat) (h : i < xs.length) : (iv xs)[i]? = some (.int .i64 ((xs[i] : Nat) : Int)) := by simp [iv, h]
theorem iv_one (xs : List Nat) : ∀ u ∈ iv xs, u.oneCell' = true := by
  intro u hu
  simp only [iv, List.mem_map] at hu
  obtain ⟨b, _, rfl⟩ := hu
  rfl
/-- The slice value of address A, length n and capacity c reads as the numbers xs. -/
structure Ri (w : World) (A : Option Addr) (n c : Nat) (xs : List Nat) : Prop where
  len : xs.length = n
  cap : n ≤ c
  max : c ≤ maxLen
  nil : A = none → c = 0
  at_ : 0 < n → ∃ b off, A = some ⟨b, off, none⟩ ∧ b < w.heap.size ∧ ∀ j, j < n → w.cell? ⟨b, off + j, none⟩ = some (.int .i64 ((xs.getD j 0 : Nat) : Int))

theorem Ri.keep {w w' : World} {A : Option Addr} {n c : Nat} {xs : List Nat} (h : Ri w A n c xs) (hs : w.heap.size ≤ w'.heap.size)
    (hk : ∀ p : Addr, p.block < w.heap.size → w'.cell? p = w.cell? p) : Ri w' A n c xs :=
  ⟨h.len, h.cap, h.max, h.nil, fun hn => by
    obtain ⟨b, off, e, hb, hc⟩ := h.at_ hn
    exact ⟨b, off, e, Nat.lt_of_lt_of_le hb hs, fun j hj => (hk _ hb).trans (hc j hj)⟩⟩
theorem Ri.below {w w' : World} {A : Option Addr} {n c : Nat} {xs : List Nat} (h : Ri w A n c xs) (hb : Below w.heap.size w w') : Ri w' A n c xs :=
  h.keep hb.size fun _ hp => hb.cell hp
theorem Ri.alloc {w : World} {A : Option Addr} {n c : Nat} {xs : List Nat} (h : Ri w A n c xs) (o : Obj) : Ri (w.alloc o) A n c xs :=
  h.below ((Below.refl _ _).alloc (Nat.le_refl _) o)
theorem Ri.drew {w : World} {A : Option Addr} {n c : Nat} {xs : List Nat} (h : Ri w A n c xs) : Ri w.drew A n c xs := h.below (Below.refl _ _).drew
theorem Ri.nil_ (w : World) : Ri w none 0 0 [] := ⟨rfl, Nat.le_refl _, by simp [maxLen], fun _ => rfl, fun h => absurd h (by omega)⟩
/-- What is owned reads. -/
theorem Ri.own {w : World} {B e n : Nat} {A : Option Addr} {c : Nat} {xs : List Nat} (h : w.ownsRow B e 1 (.slice A n c) n (iv xs)) : Ri w A n c xs := by
  have hl : xs.length = n := by have := h.1; simp [iv_length] at this; exact this
  rcases h.2 with ⟨hv, hn⟩ | ⟨g, cap, cur, hv, _, hh, hnc, hcm, _, htake⟩
  · injection hv with h1 h2 h3
    subst h1 h2 h3
    have : xs = [] := List.eq_nil_of_length_eq_zero hl
    subst this
    exact Ri.nil_ w
  · injection hv with h1 h2 h3
    subst h1 h3
    refine ⟨hl, hnc, hcm, (fun h => by cases h), fun hn => ⟨g, 0, rfl, (Array.getElem?_eq_some_iff.1 hh).1, fun j hj => ?_⟩⟩
    have := h.cellAt j (by omega)
    rw [Nat.zero_add, this, iv_at xs j (by omega)]
    simp [List.getD, hl ▸ hj]

/-- s[lo:hi], as the model spells the address. -/
theorem Ri.cut {w : World} {A : Option Addr} {n c : Nat} {xs : List Nat} (h : Ri w A n c xs) {k : Nat} (hk : k ≤ n) :
    Ri w (if c = k then A else A.map (·.add k)) (n - k) (c - k) (xs.drop k) := by
  have hc := h.cap
  refine ⟨by simp [h.len], by omega, by have := h.max; omega, fun e => ?_, fun hn => ?_⟩
  · split at e
    · have := h.nil e; omega
    · have : A = none := by simpa using e
      have := h.nil this; omega
  · obtain ⟨b, off, rfl, hb, hcell⟩ := h.at_ (by omega)
    rw [if_neg (by omega)]
    refine ⟨b, off + k, ?_, hb, fun j hj => ?_⟩
    · simp only [Option.map_some, Addr.add]
      split
      · subst_vars; rfl
      · rfl
    · have := hcell (k + j) (by omega)
      rw [Nat.add_assoc, this]
      simp [List.getD, List.getElem?_drop]
theorem Ri.take {w : World} {A : Option Addr} {n c : Nat} {xs : List Nat} (h : Ri w A n c xs) {k : Nat} (hk : k ≤ n) : Ri w A k c (xs.take k) := by
  have hl := h.len
  have hc := h.cap
  refine ⟨by simp; omega, by omega, h.max, h.nil, fun hn => ?_⟩
  obtain ⟨b, off, rfl, hb, hcell⟩ := h.at_ (by omega)
  refine ⟨b, off, rfl, hb, fun j hj => ?_⟩
  rw [hcell j (by omega)]
  simp [List.getD, List.getElem?_take, hj]

/-- 'out = append(out, p...)': out nil or the call's own, p whatever numbers. -/
theorem append_ri {w : World} {ops : Array Oper} {rest : List Oper} {o : Oper} {a : Act} {Q : Exit → Act → World → Prop} (hgd : o.guard = none) (s x : Operand)
    (ho : o.op = .call { callee := .builtin .append, args := #[s, x], argTypes := #[51, 51] })
    (base : Nat) (v : Value) (n : Nat) (xs : List Nat) (hs : a.eval s = v) (hown : w.ownsRow base 3 1 v n (iv xs))
    (A : Option Addr) (m c : Nat) (ys : List Nat) (hx : a.eval x = .slice A m c) (hr : Ri w A m c ys) (hb : n + m ≤ 1000000000000) (hbase : base ≤ w.heap.size)
    (h : ∀ v' w', w'.ownsRow base 3 1 v' (n + m) (iv (xs ++ ys)) → w.grownBy w' v.ownBlock → wpList Tryd.prog ops Q rest (a.put o.dst v') w') : wpList Tryd.prog ops Q (o :: rest) a w := by
  obtain ⟨i0, hi, hz0, hz1, hz2⟩ := info_parts Tryd.infoI
  rcases A with _ | ad
  · have hc := hr.nil rfl
    have hm : m = 0 := by have := hr.cap; omega
    subst hc hm
    obtain rfl : ys = [] := List.eq_nil_of_length_eq_zero hr.len
    exact wpList_append_own_none hgd s x _ ho base 3 i0 1 Tryd.underlying51 hi v n (iv xs) hs hown hx (h v w (by simpa using hown) (World.grownBy.refl _ _))
  · refine wpList_append_own w hgd s x _ ho base 3 i0 (.int .i64 0) 1 8 Tryd.underlying51 hi hz0 hz1 hz2 rfl (by omega) v n (iv xs) hs hown ad m c (iv ys) hx (by simp [iv_length, hr.len]) ?_ (iv_one _)
      (by simp only [maxLen]; omega) (by omega) hbase fun v' w' h1 h2 _ => h v' w' (by rw [iv_append]; exact h1) h2
    intro j u hj
    have hl := hr.len
    have hjl : j < ys.length := by
      rcases Nat.lt_or_ge j ys.length with h | h
      · exact h
      · rw [List.getElem?_eq_none (by simpa [iv_length] using h)] at hj; cases hj
    obtain ⟨b, off, e, _, hc⟩ := hr.at_ (by omega)
    injection e with e
    subst e
    have hp : (⟨b, off, none⟩ : Addr).add j = ⟨b, off + j, none⟩ := by unfold Addr.add; split <;> simp_all
    rw [iv_at ys j hjl] at hj
    rw [hp, hc j (by omega), ← hj]
    simp [List.getD, hjl]

theorem own_leni {w : World} {B e n : Nat} {v : Value} {xs : List Nat} (h : w.ownsRow B e 1 v n (iv xs)) : xs.length = n := by
  have := h.1; simp [iv_length] at this; exact this
theorem own_lit_i (w : World) (B : Nat) (xs : List Nat) (hB : B ≤ w.heap.size) (hm : xs.length ≤ maxLen) :
    (w.alloc (.cells (iv xs).toArray 3)).ownsRow B 3 1 (.slice (some ⟨w.heap.size, 0, none⟩) xs.length xs.length) xs.length (iv xs) := by
  have := World.ownsRow_lit (base := B) (e := 3) (size := 1) w (iv xs).toArray xs.length hB hm (by simp [iv_length])
  simpa using this
theorem ri_lit (w : World) (vs : Array Value) (xs : List Nat) (h : vs.toList = iv xs) (hm : xs.length ≤ maxLen) (b : Nat) (hb : w.heap.size = b) : Ri (w.alloc (.cells vs 3)) (some ⟨b, 0, none⟩) xs.length xs.length xs := by
  subst hb
  obtain ⟨vs⟩ := vs
  simp only at h
  subst h
  exact Ri.own (own_lit_i w 0 xs (Nat.zero_le _) hm)
/-- What a call gives: numbers in new memory. -/
def NewI (B : Nat) (w : World) (xs : List Nat) (e : Ending) (w' : World) : Prop :=
  ∃ (A : Option Addr) (n c : Nat), e = .returned (.slice A n c) ∧ w'.ownsRow B 3 1 (.slice A n c) n (iv xs) ∧ Below B w w'
theorem NewI.mk {B : Nat} {w w' : World} {v : Value} {n : Nat} {xs : List Nat} (h : w'.ownsRow B 3 1 v n (iv xs)) (hb : Below B w w') : NewI B w xs (.returned v) w' := by
  obtain ⟨A, c, rfl⟩ := own_form h
  exact ⟨A, n, c, rfl, h, hb⟩
theorem newi_len {B : Nat} {w w' : World} {xs : List Nat} {e : Ending} (h : NewI B w xs e w') : ∃ (A : Option Addr) (c : Nat), e = .returned (.slice A xs.length c) ∧ Ri w' A xs.length c xs ∧ w'.ownsRow B 3 1 (.slice A xs.length c) xs.length (iv xs) ∧ Below B w w' := by
  obtain ⟨A, n, c, rfl, ho, hb⟩ := h
  have hn := own_leni ho
  subst hn
  exact ⟨A, c, rfl, Ri.own ho, ho, hb⟩
theorem run_cutIH {A : Option Addr} {n c m : Nat} {h : Int} (hh : h = (m : Nat)) (hk : m ≤ c) (W : World) :
    (Instr.slice 51 (.slice A n c) none (some (.int .i64 h)) none).run Tryd.prog W = .ok (.slice A m c) W := by
  have ee : Tryd.prog.elem 51 = 3 := by kernel_rfl
  have hs : (sizeOf 3).run Tryd.prog W = .ok 1 W := by kernel_rfl
  subst hh
  rw [run_slice_h W 51 A n c (by rw [ee]; exact Tryd.underlying51) .i64 (m : Int) (by omega) (by omega), ee, hs]
  simp only [Result.andThen, sliced, Nat.mul_one, Int.toNat_natCast, Nat.sub_zero]
  have : A.map (·.add 0) = A := by cases A <;> simp [Addr.add]
  rw [this]
  split <;> rfl
theorem run_cutIHAt {A : Option Addr} {n c m : Nat} {h : Int} (hh : h = (m : Nat)) (hk : m ≤ c) (W : World) :
    (Instr.sliceAt 51 (.slice A n c) none (some (.int .i64 h)) none).run Tryd.prog W = .ok (.slice A m c) W := by
  have ee : Tryd.prog.elem 51 = 3 := by kernel_rfl
  rw [run_sliceAt_slice W 51 _ _ _ _ (by rw [ee]; exact Tryd.underlying51)]
  exact run_cutIH hh hk W
theorem news_ri {w : World} {ad : Addr} {m c : Nat} {ys : List Nat} (hr : Ri w (some ad) m c ys) : ∀ j u, (iv ys)[j]? = some u → w.cell? (ad.add j) = some u := by
  intro j u hj
  have hl := hr.len
  have hjl : j < ys.length := by
    rcases Nat.lt_or_ge j ys.length with h | h
    · exact h
    · rw [List.getElem?_eq_none (by simpa [iv_length] using h)] at hj; cases hj
  obtain ⟨b, off, e, _, hc⟩ := hr.at_ (by omega)
  injection e with e
  subst e
  have hp : (⟨b, off, none⟩ : Addr).add j = ⟨b, off + j, none⟩ := by unfold Addr.add; split <;> simp_all
  rw [iv_at ys j hjl] at hj
  rw [hp, hc j (by omega), ← hj]
  simp [List.getD, hjl]

/-- append at a step of a region that draws its order; where the new row lies. -/
theorem step_append_ri {w : World} {ops : Array Oper} {o : Oper} {a : Act} {K : Act → World → Prop} {Q : Exit → Act → World → Prop} {E : Prop} (hw : Region.wanted o (yielded ops a.tmps) = true) (s x : Operand)
    (ho : o.op = .call { callee := .builtin .append, args := #[s, x], argTypes := #[51, 51] })
    (base : Nat) (v : Value) (n : Nat) (xs : List Nat) (hs : a.eval s = v) (hown : w.ownsRow base 3 1 v n (iv xs))
    (A : Option Addr) (m c : Nat) (ys : List Nat) (hx : a.eval x = .slice A m c) (hr : Ri w A m c ys) (hb : n + m ≤ 1000000000000) (hbase : base ≤ w.heap.size)
    (h : ∀ v' w', w'.ownsRow base 3 1 v' (n + m) (iv (xs ++ ys)) → w.grownBy w' v.ownBlock → (v'.ownBlock = v.ownBlock ∨ v'.ownBlock = some w.heap.size) → K (a.put o.dst v') w') :
    if Region.wanted o (yielded ops a.tmps) = true then Oper.wp Tryd.prog o a w K Q else E := by
  obtain ⟨i0, hi, hz0, hz1, hz2⟩ := info_parts Tryd.infoI
  rw [if_pos hw]
  rcases A with _ | ad
  · have hc := hr.nil rfl
    have hm : m = 0 := by have := hr.cap; omega
    subst hc hm
    obtain rfl : ys = [] := List.eq_nil_of_length_eq_zero hr.len
    have hrun := run_append_owned_none (P := Tryd.prog) (w := w) base 51 o.type 3 i0 1 Tryd.underlying51 hi v n (iv xs) hown
    unfold Oper.wp
    simp [execOp, ho, resolve, invoke, builtin, hs, hx, hrun, Result.andThen]
    exact h v w (by simpa using hown) (World.grownBy.refl _ _) (.inl rfl)
  · obtain ⟨v', w', hrun, h2, h3, _, h5⟩ := run_append_own_at (P := Tryd.prog) w base 51 o.type 3 i0 (.int .i64 0) 1 8 Tryd.underlying51 hi hz0 hz1 hz2 rfl (by omega) v n (iv xs) hown ad m c (iv ys)
      (by simp [iv_length, hr.len]) (news_ri hr) (iv_one _) (by simp only [maxLen]; omega) (by omega) hbase
    unfold Oper.wp
    simp [execOp, ho, resolve, invoke, builtin, hs, hx, hrun, Result.andThen]
    exact h v' w' (by rw [iv_append]; exact h2) h3 h5

end Go.Proofs.YtnejepidbahjdaaDoor

/-
  What the calls of package digits are to do, as one structure; words for them. No statement is proved here.
-/
namespace Go.Proofs.YtnejepidbahjdaaDoor.S7
set_option linter.unusedSimpArgs false
set_option linter.unusedVariables false
set_option maxRecDepth 1024
open Go.RowKit

def mayB (w : Int) : Bool := w == 1 || w == 2 || w == 4 || w == 8
theorem wid_of {w : Int} (h : mayB w = true) : ∃ v : Nat, w = (v : Int) ∧ wid v := by
  simp only [mayB, Bool.or_eq_true, beq_iff_eq] at h
  rcases h with ((h | h) | h) | h
  · exact ⟨1, h, .inl rfl⟩
  · exact ⟨2, h, .inr (.inl rfl)⟩
  · exact ⟨4, h, .inr (.inr (.inl rfl))⟩
  · exact ⟨8, h, .inr (.inr (.inr rfl))⟩
theorem may_wid {v : Nat} (h : wid v) : mayB (v : Int) = true := by rcases h with h | h | h | h <;> subst h <;> rfl
def okS (n w : Int) : Bool := decide (1 ≤ n) && decide (n ≤ 64) && mayB w
theorem okS_of {n w : Int} (h : okS n w = true) : ∃ m v : Nat, n = (m : Int) ∧ w = (v : Int) ∧ 1 ≤ m ∧ m ≤ 64 ∧ wid v := by
  simp only [okS, Bool.and_eq_true, decide_eq_true_eq] at h
  obtain ⟨v, rfl, hv⟩ := wid_of h.2
  exact ⟨n.toNat, v, by omega, rfl, by omega, by omega, hv⟩
theorem pow_lt9 {j : Nat} (h : j ≤ 8) : 2 ^ j ≤ 256 := Nat.le_trans (Nat.pow_le_pow_right (by omega) h) (by decide)
theorem nd_zero (b f : Nat) : nd b f 0 = 0 := by cases f <;> simp [nd]
theorem nd_step (b f x : Nat) (h : x ≠ 0) : nd b (f + 1) x = nd b f (x / b) + 1 := by simp [nd, h]
theorem own_alloc {w : World} {B e size n : Nat} {v : Value} {xs : List Value} (h : w.ownsRow B e size v n xs) (o : Obj) : (w.alloc o).ownsRow B e size v n xs := h.alloc o
theorem own_nili (w : World) (B : Nat) : w.ownsRow B 3 1 (.slice none 0 0) 0 (iv []) := World.ownsRow_nil _ _ _ _
theorem own_lit8 (w : World) (B : Nat) (xs : List UInt8) (hB : B ≤ w.heap.size) (hm : xs.length ≤ maxLen) :
    (w.alloc (.cells (bv xs).toArray 5)).ownsRow B 5 1 (.slice (some ⟨w.heap.size, 0, none⟩) xs.length xs.length) xs.length (bv xs) := by
  have := World.ownsRow_lit (base := B) (e := 5) (size := 1) w (bv xs).toArray xs.length hB hm (by simp [bv_length])
  simpa using this
theorem rd_lit8 (w : World) (vs : Array Value) (xs : List UInt8) (h : vs.toList = bv xs) (hm : xs.length ≤ maxLen) (b : Nat) (hb : w.heap.size = b) : Rd (w.alloc (.cells vs 5)) (some ⟨b, 0, none⟩) xs.length xs.length xs := by
  subst hb
  obtain ⟨vs⟩ := vs
  simp only at h
  subst h
  exact Rd.own (own_lit8 w 0 xs (Nat.zero_le _) hm)
theorem own_basei {w : World} {B B' e size n : Nat} {v : Value} {xs : List Value} (h : w.ownsRow B e size v n xs) (hB : B' ≤ B) : w.ownsRow B' e size v n xs := by
  refine ⟨h.1, ?_⟩
  rcases h.2 with h | ⟨g, cap, cur, h1, h2, h3⟩
  · exact .inl h
  · exact .inr ⟨g, cap, cur, h1, by omega, h3⟩
/-- make of bytes where it is guarded. -/
theorem make_zz {w : World} {ops : Array Oper} {rest : List Oper} {o : Oper} {a : Act} {Q : Exit → Act → World → Prop} (hw : Region.wanted o (yielded ops a.tmps) = true)
    (l c : Operand) (hop : o.op = Op.makeSlice 22 l c) (base : Nat) (n : Nat) {kl kc : IntKind} {L C : Int} (hl : a.eval l = .int kl L) (hc : a.eval c = .int kc C) (hL : L = (n : Int)) (hC : C = (n : Int)) (b2 : n ≤ 1000000) (b4 : base ≤ w.heap.size)
    (hK : ∀ w', w'.ownsRow base 5 1 (.slice (some ⟨w.heap.size, 0, none⟩) n n) n (bv (List.replicate n 0)) → w.grownBy w' none → wpList Tryd.prog ops Q rest (a.put o.dst (.slice (some ⟨w.heap.size, 0, none⟩) n n)) w') :
    wpList Tryd.prog ops Q (o :: rest) a w := by
  obtain ⟨i0, hi, hz0, hz1, hz2⟩ := info_parts Tryd.infoU8
  obtain ⟨w', hrun, r1, r2⟩ := run_make_full (P := Tryd.prog) w base 22 5 i0 (.int .u8 0) 1 Tryd.underlying22 hi hz0 hz1 kl kc n (by rw [hz2]; omega) (by unfold maxLen; omega) b4
  subst hL
  subst hC
  unfold wpList
  rw [if_pos hw]
  left
  unfold Oper.wp
  simp [execOp, hop, hl, hc, hrun, Result.andThen]
  refine hK w' ?_ r2
  rw [Nat.mul_one] at r1
  rw [← bv_zero]
  exact r1
def ofW (w : Int) (xs : List UInt8) : List Nat := if mayB w = true then ofL w.toNat xs else []
def lackW (w : Int) (xs : List UInt8) : Nat := if mayB w = true then lk w.toNat (ofL w.toNat xs) else 0
def shW (n w : Int) : Nat × Nat × Nat := if okS n w = true then (shU n.toNat w.toNat, shV n.toNat w.toNat, shL n.toNat w.toNat) else (0, 0, 0)
def allW (w : Int) (xs : List UInt8) : List Nat := if okS xs.length w = true then allL w.toNat xs else []
/-- What a call gives: numbers that read so. -/
def GivesI (B : Nat) (w : World) (xs : List Nat) (e : Ending) (w' : World) : Prop := ∃ (A : Option Addr) (c : Nat), e = .returned (.slice A xs.length c) ∧ Ri w' A xs.length c xs ∧ Below B w w'
theorem GivesI.of_new {B : Nat} {w w' : World} {xs : List Nat} {e : Ending} (h : NewI B w xs e w') : GivesI B w xs e w' := by
  obtain ⟨A, c, h1, h2, _, h4⟩ := newi_len h
  exact ⟨A, c, h1, h2, h4⟩
/-- What the calls of package digits do, in a world that holds what they read. -/
structure DC where
  ok : World → Prop
  bel : ∀ {w w' : World}, ok w → Below w.heap.size w w' → ok w'
  may : ∀ (w : Int) (W : World), ok W → Calls Tryd.prog 59 #[.int .i64 w] W fun e w' => e = .returned (.bool (mayB w)) ∧ Below W.heap.size W w'
  of : ∀ (A : Option Addr) (n c : Nat) (xs : List UInt8) (w : Int) (W : World), ok W → Rd W A n c xs → n ≤ 100000 → Calls Tryd.prog 43 #[.slice A n c, .int .i64 w] W (GivesI W.heap.size W (ofW w xs))
  lack : ∀ (A : Option Addr) (n c : Nat) (xs : List UInt8) (w : Int) (W : World), ok W → Rd W A n c xs → n ≤ 100000 → Calls Tryd.prog 42 #[.slice A n c, .int .i64 w] W fun e w' => e = .returned (.int .i64 ((lackW w xs : Nat) : Int)) ∧ Below W.heap.size W w'
  shape : ∀ (n w : Int) (W : World), ok W → Calls Tryd.prog 40 #[.int .i64 n, .int .i64 w] W fun e w' => e = .returned (.tuple #[.int .i64 (((shW n w).1 : Nat) : Int), .int .i64 (((shW n w).2.1 : Nat) : Int), .int .i64 (((shW n w).2.2 : Nat) : Int)]) ∧ Below W.heap.size W w'
  all : ∀ (A : Option Addr) (n c : Nat) (xs : List UInt8) (w : Int) (W : World), ok W → Rd W A n c xs → n ≤ 100000 → Calls Tryd.prog 25 #[.slice A n c, .int .i64 w] W (GivesI W.heap.size W (allW w xs))
end Go.Proofs.YtnejepidbahjdaaDoor.S7

/-
  What the document's own May and Shape of layer 7 do. No statement is proved here.
-/
namespace Go.Proofs.YtnejepidbahjdaaDoor.S7
set_option linter.unusedSimpArgs false
set_option linter.unusedVariables false
set_option maxRecDepth 1024
open Go.RowKit

theorem rmay_any (w : Int) (W : World) : Calls Tryd.prog 64 #[.int .i64 w] W fun e w' => e = .returned (.bool (mayB w)) ∧ W = w' := by
  by_cases h1 : w = 1
  · subst h1
    go_enter Tryd.func64, Tryd.ntmps64
    go_wp2
    go_ret
    exact ⟨rfl, rfl⟩
  · by_cases h2 : w = 2
    · subst h2
      go_enter Tryd.func64, Tryd.ntmps64
      go_wp2
      go_ret
      exact ⟨rfl, rfl⟩
    · by_cases h4 : w = 4
      · subst h4
        go_enter Tryd.func64, Tryd.ntmps64
        go_wp2
        go_ret
        exact ⟨rfl, rfl⟩
      · have q1 : (w == 1) = false := by simpa using h1
        have q2 : (w == 2) = false := by simpa using h2
        have q4 : (w == 4) = false := by simpa using h4
        have e : mayB w = (w == 8) := by simp [mayB, q1, q2, q4]
        rw [e]
        clear e
        go_enter Tryd.func64, Tryd.ntmps64
        go_wp2
        go_ret
        exact ⟨rfl, rfl⟩
set_option maxHeartbeats 2000000 in
theorem rshape_any (n v : Nat) (W : World) (h0 : 1 ≤ n) (h1 : n ≤ 64) (hv : wid v) :
    Calls Tryd.prog 44 #[.int .i64 (n : Int), .int .i64 (v : Int)] W fun e w' => e = .returned (.tuple #[.int .i64 ((shU n v : Nat) : Int), .int .i64 ((shV n v : Nat) : Int), .int .i64 ((shL n v : Nat) : Int)]) ∧ W = w' := by
  have HM := Lib.hid (show ∀ X, Calls Tryd.prog 64 #[.int .i64 (v : Int)] X fun e w' => e = .returned (.bool true) ∧ X = w' from fun X => by rw [← may_wid hv]; exact rmay_any v X)
  obtain ⟨h8, hv1, hv8⟩ := wid_div hv
  obtain ⟨f1, f2, f3, f4, _⟩ := shape_facts n v hv h0 h1
  obtain ⟨U, hU⟩ : ∃ U, U = shU n v := ⟨_, rfl⟩
  obtain ⟨V, hV⟩ : ∃ V, V = shV n v := ⟨_, rfl⟩
  have hUb : U ≤ 512 := by
    have : n * (8 / v) ≤ n * 8 := Nat.mul_le_mul_left _ (Nat.div_le_self _ _)
    omega
  have hVL : shL n v = 16 - V * v := by rw [hV]; rfl
  have hV16 : V * v ≤ 16 := by rw [hV, Nat.mul_comm]; exact f2
  have hVd : V = nd (2 ^ v) 20 ((2 ^ v - 1) * U) := by rw [hV, hU]; rfl
  have HVD := Lib.hid hVd
  have HVL := Lib.hid hVL
  have u1 : (8 * (n : Int)) / (v : Int) = (U : Int) := by rw [hU]; unfold shU; simp
  have u2 : (8 * (n : Int)).tdiv (v : Int) = (U : Int) := by rw [Int.tdiv_eq_ediv_of_nonneg (by omega)]; exact u1
  rw [← hU, ← hV, HVL.out]
  clear hU hV hVL hVd hv h8 f1 f2 f3 f4
  have q1 : decide ((n : Int) < 1) = false := by simp; omega
  have q2 : decide (64 < (n : Int)) = false := by simp; omega
  have vz : ¬ (v : Int) = 0 := by omega
  have e8 : IntKind.i64.wrap (8 * (n : Int)) = 8 * (n : Int) := by rw [IntKind.wrap_i64]; omega
  have eU : IntKind.i64.wrap (U : Int) = (U : Int) := by rw [IntKind.wrap_i64]; omega
  go_enter Tryd.func44, Tryd.ntmps44
  go_wp2_with (go_at_call 64; ((with_reducible refine (HM.out _).mono ?_); rintro e w2 ⟨rfl, rfl⟩))
  clear q1 q2
  go_loop [7, 8] (fun m i => ∃ j : Nat, j ≤ v ∧ i = .int .i64 (j : Int) ∧ m = .int .i64 ((2 ^ j : Nat) : Int)) (fun _ i => v - (intOf i).toNat)
  case atStart => exact ⟨0, by omega, rfl, rfl⟩
  case round =>
    obtain ⟨j, hj, rfl, rfl⟩ := hrel
    have hp := pow_lt9 (Nat.le_trans hj hv8)
    by_cases hlt : j < v
    · have i0 : (j : Int) < (v : Int) := by omega
      obtain ⟨P, hP⟩ : ∃ P, P = 2 ^ j := ⟨_, rfl⟩
      have HP := Lib.hid (show 2 ^ (j + 1) = 2 * P by rw [hP, Nat.pow_succ, Nat.mul_comm])
      rw [← hP] at hp ⊢
      clear hP
      go_wp2
      go_round
      case rel => exact ⟨j + 1, by omega, by go_num, by rw [HP.out]; go_num⟩
      case measure => simp [intOf]; omega
    · obtain rfl : j = v := by omega
      have i0 : ¬ (j : Int) < (j : Int) := by omega
      obtain ⟨P, hP⟩ : ∃ P, P = 2 ^ j := ⟨_, rfl⟩
      have hP2 : 2 ≤ P := by
        have : 2 ^ 1 ≤ 2 ^ j := Nat.pow_le_pow_right (by omega) hv1
        omega
      have HVP := Lib.hid (show V = nd P 20 ((P - 1) * U) by rw [hP]; exact HVD.out)
      obtain ⟨X, hX⟩ : ∃ X, X = (P - 1) * U := ⟨_, rfl⟩
      have hXb : X ≤ 255 * 512 := by rw [hX]; exact Nat.mul_le_mul (by omega) hUb
      have HVX := Lib.hid (show V = nd P 20 X by rw [hX]; exact HVP.out)
      have x1 : ((P : Int) - 1) * (U : Int) = (X : Int) := by
        rw [hX, Int.natCast_mul, Int.natCast_sub (by omega)]
        rfl
      have x2 : IntKind.i64.wrap ((P : Int) - 1) = (P : Int) - 1 := by rw [IntKind.wrap_i64]; omega
      have x3 : IntKind.i64.wrap (X : Int) = (X : Int) := by rw [IntKind.wrap_i64]; omega
      have pz : ¬ (P : Int) = 0 := by omega
      rw [← hP] at hp ⊢
      clear hP hX
      go_wp2
      go_loop [10, 11] (fun s x => ∃ k f Y : Nat, k + nd P f Y = V ∧ k + f = 20 ∧ Y < 2 ^ f ∧ s = .int .i64 (k : Int) ∧ x = .int .i64 (Y : Int)) (fun s _ => 20 - (intOf s).toNat)
      case atStart => exact ⟨0, 20, X, by rw [Nat.zero_add]; exact HVX.out.symm, rfl, by omega, rfl, rfl⟩
      case round =>
        obtain ⟨k, f, Y, hk, hf, hY, rfl, rfl⟩ := hrel
        by_cases hy : Y = 0
        · subst hy
          rw [nd_zero, Nat.add_zero] at hk
          subst hk
          have y0 : ¬ (0 : Int) < ((0 : Nat) : Int) := by simp
          have kv : (k : Int) * (j : Int) = ((k * j : Nat) : Int) := by simp
          obtain ⟨KV, hKV⟩ : ∃ KV, KV = k * j := ⟨_, rfl⟩
          rw [← hKV] at kv hV16
          have HKV := Lib.hid hKV
          have l1 : IntKind.i64.wrap (KV : Int) = (KV : Int) := by rw [IntKind.wrap_i64]; omega
          have l2 : IntKind.i64.wrap (16 - (KV : Int)) = 16 - (KV : Int) := by rw [IntKind.wrap_i64]; omega
          have l3 : ((16 - KV : Nat) : Int) = 16 - (KV : Int) := by omega
          have L3 := Lib.hid l3
          clear hKV l3
          go_wp2
          go_ret3
          exact ⟨by rw [← HKV.out, L3.out]; rfl, rfl⟩
        · have yp : (0 : Int) < (Y : Int) := by omega
          obtain ⟨g, rfl⟩ : ∃ g, f = g + 1 := ⟨f - 1, by
            rcases Nat.eq_zero_or_pos f with h | h
            · subst h; simp at hY; omega
            · omega⟩
          rw [nd_step P g Y hy] at hk
          obtain ⟨Z, hZ⟩ : ∃ Z, Z = Y / P := ⟨_, rfl⟩
          have hZ2 : Z < 2 ^ g := by
            rw [hZ, Nat.div_lt_iff_lt_mul (by omega)]
            have h1 : 2 ^ g * 2 ≤ 2 ^ g * P := Nat.mul_le_mul_left _ hP2
            rw [Nat.pow_succ] at hY
            omega
          have z1 : (Y : Int) / (P : Int) = (Z : Int) := by rw [hZ]; simp
          have z2 : (Y : Int).tdiv (P : Int) = (Z : Int) := by rw [Int.tdiv_eq_ediv_of_nonneg (by omega)]; exact z1
          have z0 : ¬ Z > Y := by rw [hZ]; have := Nat.div_le_self Y P; omega
          have hY9 : Y < 2 ^ 20 := Nat.lt_of_lt_of_le hY (Nat.pow_le_pow_right (by omega) (by omega))
          have z3 : IntKind.i64.wrap (Z : Int) = (Z : Int) := by rw [IntKind.wrap_i64]; omega
          rw [← hZ] at hk
          have HK := Lib.hid hk
          have HF := Lib.hid hf
          have HZ2 := Lib.hid hZ2
          have k1 : k < 20 := by omega
          clear hZ hk hf hY hZ2 hY9
          go_wp2
          go_round
          case rel => exact ⟨k + 1, g, Z, by have := HK.out; omega, by have := HF.out; omega, HZ2.out, by go_num, rfl⟩
          case measure => simp [intOf]; omega
theorem rshape_none (n w : Int) (W : World) (h : okS n w = false) :
    Calls Tryd.prog 44 #[.int .i64 n, .int .i64 w] W fun e w' => e = .returned (.tuple #[.int .i64 0, .int .i64 0, .int .i64 0]) ∧ W = w' := by
  by_cases h1 : n < 1
  · have q1 : decide (n < 1) = true := by simpa using h1
    clear h
    go_enter Tryd.func44, Tryd.ntmps44
    go_wp2
    go_ret3
    exact ⟨rfl, rfl⟩
  · by_cases h2 : 64 < n
    · have q1 : decide (n < 1) = false := by simpa using h1
      have q2 : decide (64 < n) = true := by simpa using h2
      clear h
      go_enter Tryd.func44, Tryd.ntmps44
      go_wp2
      go_ret3
      exact ⟨rfl, rfl⟩
    · have q1 : decide (n < 1) = false := by simpa using h1
      have q2 : decide (64 < n) = false := by simpa using h2
      have hm : mayB w = false := by
        cases hc : mayB w with
        | false => rfl
        | true => simp [okS, hc] at h; omega
      have HM := Lib.hid (show ∀ X, Calls Tryd.prog 64 #[.int .i64 w] X fun e w' => e = .returned (.bool false) ∧ X = w' from fun X => by rw [← hm]; exact rmay_any w X)
      clear h hm
      go_enter Tryd.func44, Tryd.ntmps44
      go_wp2_with (go_at_call 64; ((with_reducible refine (HM.out _).mono ?_); rintro e w2 ⟨rfl, rfl⟩))
      go_ret3
      exact ⟨rfl, rfl⟩
theorem rshapeW (n w : Int) (W : World) :
    Calls Tryd.prog 44 #[.int .i64 n, .int .i64 w] W fun e w' => e = .returned (.tuple #[.int .i64 (((shW n w).1 : Nat) : Int), .int .i64 (((shW n w).2.1 : Nat) : Int), .int .i64 (((shW n w).2.2 : Nat) : Int)]) ∧ W = w' := by
  cases hc : okS n w with
  | false =>
    rw [shW, hc, if_neg (by simp)]
    exact rshape_none n w W hc
  | true =>
    obtain ⟨m, v, rfl, rfl, h0, h1, hv⟩ := okS_of hc
    rw [shW, hc, if_pos rfl, Int.toNat_natCast, Int.toNat_natCast]
    exact rshape_any m v W h0 h1 hv
end Go.Proofs.YtnejepidbahjdaaDoor.S7

/-
  What the document's own Of of layer 7 does. No statement is proved here.
-/
namespace Go.Proofs.YtnejepidbahjdaaDoor.S7
set_option linter.unusedSimpArgs false
set_option linter.unusedVariables false
set_option maxRecDepth 1024
open Go.RowKit

set_option maxHeartbeats 2000000 in
theorem rof_none (A : Option Addr) (n c : Nat) (w : Int) (W : World) (hw : mayB w = false) :
    Calls Tryd.prog 46 #[.slice A n c, .int .i64 w] W fun e w' => e = .returned (.slice none 0 0) ∧ W = w' := by
  have HM := Lib.hid (show ∀ X, Calls Tryd.prog 64 #[.int .i64 w] X fun e w' => e = .returned (.bool false) ∧ X = w' from fun X => by rw [← hw]; exact rmay_any w X)
  clear hw
  go_enter Tryd.func46, Tryd.ntmps46
  go_wp2_with (go_at_call 64; ((with_reducible refine (HM.out _).mono ?_); rintro e w1 ⟨rfl, rfl⟩))
  go_ret
  exact ⟨rfl, rfl⟩
set_option maxHeartbeats 4000000 in
theorem rof_any (A : Option Addr) (n c : Nat) (xs : List UInt8) (v : Nat) (W : World) (hr : Rd W A n c xs) (hv : wid v) (hm : n ≤ 1000000) :
    Calls Tryd.prog 46 #[.slice A n c, .int .i64 (v : Int)] W (NewI W.heap.size W (ofL v xs)) := by
  have HM := Lib.hid (show ∀ X, Calls Tryd.prog 64 #[.int .i64 (v : Int)] X fun e w' => e = .returned (.bool true) ∧ X = w' from fun X => by rw [← may_wid hv]; exact rmay_any v X)
  have HV := Lib.hid hv
  have HR := Lib.hid hr
  have HL := Lib.hid hr.len
  obtain ⟨h8, hv1, hv8⟩ := wid_div hv
  have H8 := Lib.hid h8
  clear hv hr
  have e8 : IntKind.i64.wrap (8 * (n : Int)) = 8 * (n : Int) := by rw [IntKind.wrap_i64]; omega
  clear h8
  go_enter Tryd.func46, Tryd.ntmps46
  go_wp2_with (go_at_call 64; ((with_reducible refine (HM.out _).mono ?_); rintro e w1 ⟨rfl, rfl⟩))
  go_loopw [5, 6, 7, 8, 9] (fun out at_ _ _ _ wr => ∃ k a : Nat, k ≤ n * (8 / v) ∧ a = v * k ∧ at_ = .int .i64 (a : Int) ∧ wr.ownsRow W.heap.size 3 1 out k (iv ((ofL v xs).take k)) ∧ Below W.heap.size W wr) (fun _ at_ _ _ _ _ => 8 * n - (intOf at_).toNat)
  case atStart => exact ⟨0, 0, by omega, by simp, rfl, own_nili _ _, Below.refl _ _⟩
  case round =>
    obtain ⟨k, a, hk, ha, rfl, own, hB⟩ := hrel
    have h8n : v * (n * (8 / v)) = 8 * n := by rw [Nat.mul_left_comm, H8.out, Nat.mul_comm]
    by_cases hlt : a < 8 * n
    · have i0 : (a : Int) < 8 * (n : Int) := by omega
      have hkl : k < n * (8 / v) := by
        apply Classical.byContradiction
        intro hh
        have : v * (n * (8 / v)) ≤ v * k := Nat.mul_le_mul_left _ (by omega)
        omega
      obtain ⟨q, hq⟩ : ∃ q, q = a / 8 := ⟨_, rfl⟩
      obtain ⟨o, ho⟩ : ∃ o, o = a % 8 := ⟨_, rfl⟩
      have hao : a = 8 * q + o := by omega
      have ho8 : o + v ≤ 8 := by
        have hd : a % v = 0 := by rw [ha]; exact Nat.mul_mod_right v k
        rcases HV.out with h | h | h | h <;> subst h <;> omega
      have hov : o % v = 0 := by
        have hd : a % v = 0 := by rw [ha]; exact Nat.mul_mod_right v k
        rcases HV.out with h | h | h | h <;> subst h <;> omega
      have hqn : q < n := by omega
      obtain ⟨x, hx⟩ : ∃ x, x = (xs.getD q 0).toNat := ⟨_, rfl⟩
      have hx256 : x < 256 := by rw [hx]; exact UInt8.toNat_lt _
      have HT := Lib.hid (show (ofL v xs).take (k + 1) = (ofL v xs).take k ++ [x / 2 ^ (8 - o - v) % 2 ^ v] by
        rw [ofL_take v HV.out xs k (by rw [HL.out]; exact hkl), ← ha, ← hq, ← ho, ← hx, bit_all v x o HV.out hov (by omega)])
      have hr := HR.out.below hB
      obtain ⟨b, off, rfl, hbk, hcell⟩ := hr.at_ (by omega)
      have hc := hcell q hqn
      rw [← hx] at hc
      have HA := Lib.hid ha
      have HO := Lib.hid own
      have HBB := Lib.hid hB
      have HAO := Lib.hid hao
      clear hcell hx hq ho ha hov h8n own hB hr hao
      go_wp2
      go_loop [7, 8, 9] (fun d i _ => ∃ j : Nat, j ≤ v ∧ i = .int .i64 (j : Int) ∧ d = .int .i64 ((x / 2 ^ (8 - o - j) % 2 ^ j : Nat) : Int)) (fun _ i _ => v - (intOf i).toNat)
      case atStart => exact ⟨0, by omega, rfl, by simp [Nat.mod_one]⟩
      case round =>
        obtain ⟨j, hj, rfl, rfl⟩ := hrel
        by_cases hlt2 : j < v
        · have i1 : (j : Int) < (v : Int) := by omega
          obtain ⟨D, hD⟩ : ∃ D, D = x / 2 ^ (8 - o - j) % 2 ^ j := ⟨_, rfl⟩
          have hD2 : D < 256 := by
            have h1 : D < 2 ^ j := by rw [hD]; exact Nat.mod_lt _ (Nat.two_pow_pos _)
            have h2 : 2 ^ j ≤ 2 ^ 8 := Nat.pow_le_pow_right (by omega) (by omega)
            omega
          obtain ⟨S, hS⟩ : ∃ S, S = 7 - (o + j) := ⟨_, rfl⟩
          obtain ⟨Y, hY⟩ : ∃ Y, Y = x / 2 ^ S := ⟨_, rfl⟩
          have hYx : Y ≤ x := by rw [hY]; exact Nat.div_le_self _ _
          have HN := Lib.hid (show x / 2 ^ (8 - o - (j + 1)) % 2 ^ (j + 1) = D * 2 + Y % 2 by rw [hD, hY, hS, bit_step x o j (by omega)])
          rw [← hD]
          have hao := HAO.out
          have f1 : IntKind.i64.wrap ((a : Int) + (j : Int)) = (a : Int) + (j : Int) := by rw [IntKind.wrap_i64]; omega
          have f2 : ((a : Int) + (j : Int)) / 8 = (q : Int) := by omega
          have f2' : ((a : Int) + (j : Int)).tdiv 8 = (q : Int) := by rw [Int.tdiv_eq_ediv_of_nonneg (by omega)]; exact f2
          have f3 : ((a : Int) + (j : Int)) % 8 = (o : Int) + (j : Int) := by omega
          have f3' : ((a : Int) + (j : Int)).tmod 8 = (o : Int) + (j : Int) := by rw [Int.tmod_eq_emod_of_nonneg (by omega)]; exact f3
          have f4 : IntKind.i64.wrap (7 - ((o : Int) + (j : Int))) = (S : Int) := by rw [IntKind.wrap_i64]; omega
          have f4' : (7 : Int) - ((o : Int) + (j : Int)) = (S : Int) := by omega
          have f5 : (x : Int) / 2 ^ S = (Y : Int) := by rw [hY]; simp
          have HQ := Lib.hid hqn
          clear hD hS hY hao
          go_wp2
          go_round
          case rel => exact ⟨j + 1, by omega, by go_num, by rw [HN.out]; go_num⟩
          case measure => simp [intOf]; omega
        · obtain rfl : j = v := by omega
          have i1 : ¬ (j : Int) < (j : Int) := by omega
          obtain ⟨D, hD⟩ : ∃ D, D = x / 2 ^ (8 - o - j) % 2 ^ j := ⟨_, rfl⟩
          have HT2 := Lib.hid (show (ofL j xs).take (k + 1) = (ofL j xs).take k ++ [D] by rw [hD]; exact HT.out)
          rw [← hD]
          have g1 : IntKind.i64.wrap ((a : Int) + (j : Int)) = (a : Int) + (j : Int) := by rw [IntKind.wrap_i64]; omega
          have hl := Lib.hid (ri_lit wr #[.int .i64 (D : Int)] [D] rfl (by simp [maxLen]) _ rfl)
          have HAJ := Lib.hid (show a + j = j * (k + 1) by rw [HA.out, Nat.mul_succ])
          have hk1 : k + 1 ≤ n * (8 / j) := by omega
          have hkb : k ≤ 8000000 := by
            have h1 : n * (8 / j) ≤ n * 8 := Nat.mul_le_mul_left _ (Nat.div_le_self _ _)
            omega
          clear hD
          go_wp2_with (at_builtin; refine append_ri rfl (.tmp 46) (.tmp 48) rfl W.heap.size _ k _ rfl (own_alloc HO.out _) _ 1 1 [D] rfl hl.out (by omega) (by have := HBB.out.size; simp; omega) ?_; intro v1 w2 o1 g2; have O1 := Lib.hid o1; have B1 := Lib.hid ((HBB.out.alloc HBB.out.size _).grown g2 (by have := HBB.out.size; simp; omega) (fun g hg => (HO.out.lt g hg).1)); clear o1 g2)
          go_roundw
          case rel => exact ⟨k + 1, a + j, hk1, HAJ.out, by go_num, by rw [HT2.out]; exact O1.out, B1.out⟩
          case measure => simp [intOf]; omega
    · have i0 : ¬ (a : Int) < 8 * (n : Int) := by omega
      have hkn : n * (8 / v) ≤ k := by
        apply Nat.le_of_mul_le_mul_left (c := v) _ (by omega)
        rw [h8n, ← ha]
        omega
      have hf : (ofL v xs).take k = ofL v xs := List.take_of_length_le (by rw [ofL_length, HL.out]; exact hkn)
      rw [hf] at own
      clear ha hf h8n
      go_wp2
      go_ret
      exact NewI.mk own hB
end Go.Proofs.YtnejepidbahjdaaDoor.S7
