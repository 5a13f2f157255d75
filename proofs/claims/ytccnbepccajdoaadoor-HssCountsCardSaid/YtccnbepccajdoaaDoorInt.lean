/-
  Rows of whole numbers that read so, and append to such a row. No statement is proved here.
-/
import Derived.Test.YtccnbepccajdoaaDoorWords
import Derived.Test.YtccnbepccajdoaaDoorCel
import Derived.Deep.DrawnRows
import Derived.Deep.AppendLies
namespace Go.Proofs.YtccnbepccajdoaaDoor
set_option linter.unusedSimpArgs false
set_option linter.unusedVariables false
set_option maxRecDepth 1024
open Go.RowKit

theorem Tryd.infoI : (Tryd.prog.info? 3).map (fun i => (i.zero, i.size, i.bytes)) = some (some (.int .i64 0), 1, 8) := by kernel_rfl
/-- A row of numbers as values. -/
def iv (xs : List Nat) : List Value := xs.map fun (b : Nat) => Value.int .i64 (b : Int)
theorem iv_length (xs : List Nat) : (iv xs).length = xs.length := by simp [iv]
theorem iv_append (xs ys : List Nat) : iv (xs ++ ys) = iv xs ++ iv ys := by simp [iv]
theorem iv_at (xs : List Nat) (i : Nat) (h : i < xs.length) : (iv xs)[i]? = some (.int .i64 ((xs[i] : Nat) : Int)) := by simp [iv, h]
theorem iv_one (xs : List Nat) : ∀ u ∈ iv xs, u.oneCell' = true := by
  intro u hu
  simp only [iv, List.mem_map] at hu
  obtain ⟨b, _, rfl⟩ := hu
  rfl
/-- The slice value of address A, length n and capacity c reads as the numbers xs. -/
structure Ri (w : World) (A : Option Addr) (n c : Nat) (xs : List Nat) : Prop where
  len : xs.length = n
  cap : n ≤ c
  max : c ≤ maxLen
  nil : A = none → c = 0
  at_ : 0 < n → ∃ b off, A = some ⟨b, off, none⟩ ∧ b < w.heap.size ∧ ∀ j, j < n → w.cell? ⟨b, off + j, none⟩ = some (.int .i64 ((xs.getD j 0 : Nat) : Int))

theorem Ri.keep {w w' : World} {A : Option Addr} {n c : Nat} {xs : List Nat} (h : Ri w A n c xs) (hs : w.heap.size ≤ w'.heap.size)
    (hk : ∀ p : Addr, p.block < w.heap.size → w'.cell? p = w.cell? p) : Ri w' A n c xs :=
  ⟨h.len, h.cap, h.max, h.nil, fun hn => by
    obtain ⟨b, off, e, hb, hc⟩ := h.at_ hn
    exact ⟨b, off, e, Nat.lt_of_lt_of_le hb hs, fun j hj => (hk _ hb).trans (hc j hj)⟩⟩
theorem Ri.below {w w' : World} {A : Option Addr} {n c : Nat} {xs : List Nat} (h : Ri w A n c xs) (hb : Below w.heap.size w w') : Ri w' A n c xs :=
  h.keep hb.size fun _ hp => hb.cell hp
theorem Ri.alloc {w : World} {A : Option Addr} {n c : Nat} {xs : List Nat} (h : Ri w A n c xs) (o : Obj) : Ri (w.alloc o) A n c xs :=
  h.below ((Below.refl _ _).alloc (Nat.le_refl _) o)
theorem Ri.drew {w : World} {A : Option Addr} {n c : Nat} {xs : List Nat} (h : Ri w A n c xs) : Ri w.drew A n c xs := h.below (Below.refl _ _).drew
theorem Ri.nil_ (w : World) : Ri w none 0 0 [] := ⟨rfl, Nat.le_refl _, by simp [maxLen], fun _ => rfl, fun h => absurd h (by omega)⟩
/-- What is owned reads. -/
theorem Ri.own {w : World} {B e n : Nat} {A : Option Addr} {c : Nat} {xs : List Nat} (h : w.ownsRow B e 1 (.slice A n c) n (iv xs)) : Ri w A n c xs := by
  have hl : xs.length = n := by have := h.1; simp [iv_length] at this; exact this
  rcases h.2 with ⟨hv, hn⟩ | ⟨g, cap, cur, hv, _, hh, hnc, hcm, _, htake⟩
  · injection hv with h1 h2 h3
    subst h1 h2 h3
    have : xs = [] := List.eq_nil_of_length_eq_zero hl
    subst this
    exact Ri.nil_ w
  · injection hv with h1 h2 h3
    subst h1 h3
    refine ⟨hl, hnc, hcm, (fun h => by cases h), fun hn => ⟨g, 0, rfl, (Array.getElem?_eq_some_iff.1 hh).1, fun j hj => ?_⟩⟩
    have := h.cellAt j (by omega)
    rw [Nat.zero_add, this, iv_at xs j (by omega)]
    simp [List.getD, hl ▸ hj]

/-- s[lo:hi], as the model spells the address. -/
theorem Ri.cut {w : World} {A : Option Addr} {n c : Nat} {xs : List Nat} (h : Ri w A n c xs) {k : Nat} (hk : k ≤ n) :
    Ri w (if c = k then A else A.map (·.add k)) (n - k) (c - k) (xs.drop k) := by
  have hc := h.cap
  refine ⟨by simp [h.len], by omega, by have := h.max; omega, fun e => ?_, fun hn => ?_⟩
  · split at e
    · have := h.nil e; omega
    · have : A = none := by simpa using e
      have := h.nil this; omega
  · obtain ⟨b, off, rfl, hb, hcell⟩ := h.at_ (by omega)
    rw [if_neg (by omega)]
    refine ⟨b, off + k, ?_, hb, fun j hj => ?_⟩
    · simp only [Option.map_some, Addr.add]
      split
      · subst_vars; rfl
      · rfl
    · have := hcell (k + j) (by omega)
      rw [Nat.add_assoc, this]
      simp [List.getD, List.getElem?_drop]
theorem Ri.take {w : World} {A : Option Addr} {n c : Nat} {xs : List Nat} (h : Ri w A n c xs) {k : Nat} (hk : k ≤ n) : Ri w A k c (xs.take k) := by
  have hl := h.len
  have hc := h.cap
  refine ⟨by simp; omega, by omega, h.max, h.nil, fun hn => ?_⟩
  obtain ⟨b, off, rfl, hb, hcell⟩ := h.at_ (by omega)
  refine ⟨b, off, rfl, hb, fun j hj => ?_⟩
  rw [hcell j (by omega)]
  simp [List.getD, List.getElem?_take, hj]

/-- 'out = append(out, p...)': out nil or the call's own, p whatever numbers. -/
theorem append_ri {w : World} {ops : Array Oper} {rest : List Oper} {o : Oper} {a : Act} {Q : Exit → Act → World → Prop} (hgd : o.guard = none) (s x : Operand)
    (ho : o.op = .call { callee := .builtin .append, args := #[s, x], argTypes := #[77, 77] })
    (base : Nat) (v : Value) (n : Nat) (xs : List Nat) (hs : a.eval s = v) (hown : w.ownsRow base 3 1 v n (iv xs))
    (A : Option Addr) (m c : Nat) (ys : List Nat) (hx : a.eval x = .slice A m c) (hr : Ri w A m c ys) (hb : n + m ≤ 1000000000000) (hbase : base ≤ w.heap.size)
    (h : ∀ v' w', w'.ownsRow base 3 1 v' (n + m) (iv (xs ++ ys)) → w.grownBy w' v.ownBlock → wpList Tryd.prog ops Q rest (a.put o.dst v') w') : wpList Tryd.prog ops Q (o :: rest) a w := by
  obtain ⟨i0, hi, hz0, hz1, hz2⟩ := info_parts Tryd.infoI
  rcases A with _ | ad
  · have hc := hr.nil rfl
    have hm : m = 0 := by have := hr.cap; omega
    subst hc hm
    obtain rfl : ys = [] := List.eq_nil_of_length_eq_zero hr.len
    exact wpList_append_own_none hgd s x _ ho base 3 i0 1 Tryd.underlying77 hi v n (iv xs) hs hown hx (h v w (by simpa using hown) (World.grownBy.refl _ _))
  · refine wpList_append_own w hgd s x _ ho base 3 i0 (.int .i64 0) 1 8 Tryd.underlying77 hi hz0 hz1 hz2 rfl (by omega) v n (iv xs) hs hown ad m c (iv ys) hx (by simp [iv_length, hr.len]) ?_ (iv_one _)
      (by simp only [maxLen]; omega) (by omega) hbase fun v' w' h1 h2 _ => h v' w' (by rw [iv_append]; exact h1) h2
    intro j u hj
    have hl := hr.len
    have hjl : j < ys.length := by
      rcases Nat.lt_or_ge j ys.length with h | h
      · exact h
      · rw [List.getElem?_eq_none (by simpa [iv_length] using h)] at hj; cases hj
    obtain ⟨b, off, e, _, hc⟩ := hr.at_ (by omega)
    injection e with e
    subst e
    have hp : (⟨b, off, none⟩ : Addr).add j = ⟨b, off + j, none⟩ := by unfold Addr.add; split <;> simp_all
    rw [iv_at ys j hjl] at hj
    rw [hp, hc j (by omega), ← hj]
    simp [List.getD, hjl]

theorem own_leni {w : World} {B e n : Nat} {v : Value} {xs : List Nat} (h : w.ownsRow B e 1 v n (iv xs)) : xs.length = n := by
  have := h.1; simp [iv_length] at this; exact this
theorem own_lit_i (w : World) (B : Nat) (xs : List Nat) (hB : B ≤ w.heap.size) (hm : xs.length ≤ maxLen) :
    (w.alloc (.cells (iv xs).toArray 3)).ownsRow B 3 1 (.slice (some ⟨w.heap.size, 0, none⟩) xs.length xs.length) xs.length (iv xs) := by
  have := World.ownsRow_lit (base := B) (e := 3) (size := 1) w (iv xs).toArray xs.length hB hm (by simp [iv_length])
  simpa using this
theorem ri_lit (w : World) (vs : Array Value) (xs : List Nat) (h : vs.toList = iv xs) (hm : xs.length ≤ maxLen) (b : Nat) (hb : w.heap.size = b) : Ri (w.alloc (.cells vs 3)) (some ⟨b, 0, none⟩) xs.length xs.length xs := by
  subst hb
  obtain ⟨vs⟩ := vs
  simp only at h
  subst h
  exact Ri.own (own_lit_i w 0 xs (Nat.zero_le _) hm)
/-- What a call gives: numbers in new memory. -/
def NewI (B : Nat) (w : World) (xs : List Nat) (e : Ending) (w' : World) : Prop :=
  ∃ (A : Option Addr) (n c : Nat), e = .returned (.slice A n c) ∧ w'.ownsRow B 3 1 (.slice A n c) n (iv xs) ∧ Below B w w'
theorem NewI.mk {B : Nat} {w w' : World} {v : Value} {n : Nat} {xs : List Nat} (h : w'.ownsRow B 3 1 v n (iv xs)) (hb : Below B w w') : NewI B w xs (.returned v) w' := by
  obtain ⟨A, c, rfl⟩ := own_form h
  exact ⟨A, n, c, rfl, h, hb⟩
theorem newi_len {B : Nat} {w w' : World} {xs : List Nat} {e : Ending} (h : NewI B w xs e w') : ∃ (A : Option Addr) (c : Nat), e = .returned (.slice A xs.length c) ∧ Ri w' A xs.length c xs ∧ w'.ownsRow B 3 1 (.slice A xs.length c) xs.length (iv xs) ∧ Below B w w' := by
  obtain ⟨A, n, c, rfl, ho, hb⟩ := h
  have hn := own_leni ho
  subst hn
  exact ⟨A, c, rfl, Ri.own ho, ho, hb⟩
theorem run_cutIH {A : Option Addr} {n c m : Nat} {h : Int} (hh : h = (m : Nat)) (hk : m ≤ c) (W : World) :
    (Instr.slice 77 (.slice A n c) none (some (.int .i64 h)) none).run Tryd.prog W = .ok (.slice A m c) W := by
  have ee : Tryd.prog.elem 77 = 3 := by kernel_rfl
  have hs : (sizeOf 3).run Tryd.prog W = .ok 1 W := by kernel_rfl
  subst hh
  rw [run_slice_h W 77 A n c (by rw [ee]; exact Tryd.underlying77) .i64 (m : Int) (by omega) (by omega), ee, hs]
  simp only [Result.andThen, sliced, Nat.mul_one, Int.toNat_natCast, Nat.sub_zero]
  have : A.map (·.add 0) = A := by cases A <;> simp [Addr.add]
  rw [this]
  split <;> rfl
theorem run_cutIHAt {A : Option Addr} {n c m : Nat} {h : Int} (hh : h = (m : Nat)) (hk : m ≤ c) (W : World) :
    (Instr.sliceAt 77 (.slice A n c) none (some (.int .i64 h)) none).run Tryd.prog W = .ok (.slice A m c) W := by
  have ee : Tryd.prog.elem 77 = 3 := by kernel_rfl
  rw [run_sliceAt_slice W 77 _ _ _ _ (by rw [ee]; exact Tryd.underlying77)]
  exact run_cutIH hh hk W
theorem news_ri {w : World} {ad : Addr} {m c : Nat} {ys : List Nat} (hr : Ri w (some ad) m c ys) : ∀ j u, (iv ys)[j]? = some u → w.cell? (ad.add j) = some u := by
  intro j u hj
  have hl := hr.len
  have hjl : j < ys.length := by
    rcases Nat.lt_or_ge j ys.length with h | h
    · exact h
    · rw [List.getElem?_eq_none (by simpa [iv_length] using h)] at hj; cases hj
  obtain ⟨b, off, e, _, hc⟩ := hr.at_ (by omega)
  injection e with e
  subst e
  have hp : (⟨b, off, none⟩ : Addr).add j = ⟨b, off + j, none⟩ := by unfold Addr.add; split <;> simp_all
  rw [iv_at ys j hjl] at hj
  rw [hp, hc j (by omega), ← hj]
  simp [List.getD, hjl]

/-- append at a step of a region that draws its order; where the new row lies. -/
theorem step_append_ri {w : World} {ops : Array Oper} {o : Oper} {a : Act} {K : Act → World → Prop} {Q : Exit → Act → World → Prop} {E : Prop} (hw : Region.wanted o (yielded ops a.tmps) = true) (s x : Operand)
    (ho : o.op = .call { callee := .builtin .append, args := #[s, x], argTypes := #[77, 77] })
    (base : Nat) (v : Value) (n : Nat) (xs : List Nat) (hs : a.eval s = v) (hown : w.ownsRow base 3 1 v n (iv xs))
    (A : Option Addr) (m c : Nat) (ys : List Nat) (hx : a.eval x = .slice A m c) (hr : Ri w A m c ys) (hb : n + m ≤ 1000000000000) (hbase : base ≤ w.heap.size)
    (h : ∀ v' w', w'.ownsRow base 3 1 v' (n + m) (iv (xs ++ ys)) → w.grownBy w' v.ownBlock → (v'.ownBlock = v.ownBlock ∨ v'.ownBlock = some w.heap.size) → K (a.put o.dst v') w') :
    if Region.wanted o (yielded ops a.tmps) = true then Oper.wp Tryd.prog o a w K Q else E := by
  obtain ⟨i0, hi, hz0, hz1, hz2⟩ := info_parts Tryd.infoI
  rw [if_pos hw]
  rcases A with _ | ad
  · have hc := hr.nil rfl
    have hm : m = 0 := by have := hr.cap; omega
    subst hc hm
    obtain rfl : ys = [] := List.eq_nil_of_length_eq_zero hr.len
    have hrun := run_append_owned_none (P := Tryd.prog) (w := w) base 77 o.type 3 i0 1 Tryd.underlying77 hi v n (iv xs) hown
    unfold Oper.wp
    simp [execOp, ho, resolve, invoke, builtin, hs, hx, hrun, Result.andThen]
    exact h v w (by simpa using hown) (World.grownBy.refl _ _) (.inl rfl)
  · obtain ⟨v', w', hrun, h2, h3, _, h5⟩ := run_append_own_at (P := Tryd.prog) w base 77 o.type 3 i0 (.int .i64 0) 1 8 Tryd.underlying77 hi hz0 hz1 hz2 rfl (by omega) v n (iv xs) hown ad m c (iv ys)
      (by simp [iv_length, hr.len]) (news_ri hr) (iv_one _) (by simp only [maxLen]; omega) (by omega) hbase
    unfold Oper.wp
    simp [execOp, ho, resolve, invoke, builtin, hs, hx, hrun, Result.andThen]
    exact h v' w' (by rw [iv_append]; exact h2) h3 h5

end Go.Proofs.YtccnbepccajdoaaDoor
