/-
  Rows of floating numbers that read so, and append to such a row. No statement is proved here.
-/
import Derived.Test.YtkanckphkmilkaaOdC
import Derived.Deep.DrawnRows
import Derived.Deep.AppendLies
namespace Go.Proofs.Ytkanckphkmilkaa.F
set_option linter.unusedSimpArgs false
set_option linter.unusedVariables false
open Go.RowKit

theorem own_form {w : World} {B e n : Nat} {v : Value} {xs : List Value} (h : w.ownsRow B e 1 v n xs) : ∃ (A : Option Addr) (c : Nat), v = .slice A n c := by
  rcases h.2 with ⟨hv, hn⟩ | ⟨g, cap, cur, hv, _⟩
  · subst hn; exact ⟨_, _, hv⟩
  · exact ⟨_, _, hv⟩
theorem own_belowF {w w' : World} {B e size n : Nat} {v : Value} {xs : List Value} (h : w.ownsRow B e size v n xs) (hb : Below w.heap.size w w') : w'.ownsRow B e size v n xs :=
  h.kept (row := none) ⟨hb.os, hb.tape, hb.output, hb.size, fun i hi _ => hb.block i hi⟩ (by cases hh : v.ownBlock <;> simp)
theorem Try.infoF : (Try.prog.info? 22).map (fun i => (i.zero, i.size, i.bytes)) = some (some (.float .f64 0), 1, 8) := by kernel_rfl
/-- A row of numbers as values. -/
def fv (xs : List Nat) : List Value := xs.map fun (b : Nat) => Value.float .f64 b
theorem fv_length (xs : List Nat) : (fv xs).length = xs.length := by simp [fv]
theorem fv_append (xs ys : List Nat) : fv (xs ++ ys) = fv xs ++ fv ys := by simp [fv]
theorem fv_at (xs : List Nat) (i : Nat) (h : i < xs.length) : (fv xs)[i]? = some (.float .f64 xs[i]) := by simp [fv, h]
theorem fv_one (xs : List Nat) : ∀ u ∈ fv xs, u.oneCell' = true := by
  intro u hu
  simp only [fv, List.mem_map] at hu
  obtain ⟨b, _, rfl⟩ := hu
  rfl
theorem Rf.keep {w w' : World} {A : Option Addr} {n c : Nat} {xs : List Nat} (h : Rf w A n c xs) (hs : w.heap.size ≤ w'.heap.size)
    (hk : ∀ p : Addr, p.block < w.heap.size → w'.cell? p = w.cell? p) : Rf w' A n c xs :=
  ⟨h.len, h.cap, h.max, h.nil, fun hn => by
    obtain ⟨b, off, e, hb, hc⟩ := h.at_ hn
    exact ⟨b, off, e, Nat.lt_of_lt_of_le hb hs, fun j hj => (hk _ hb).trans (hc j hj)⟩⟩
theorem Rf.alloc {w : World} {A : Option Addr} {n c : Nat} {xs : List Nat} (h : Rf w A n c xs) (o : Obj) : Rf (w.alloc o) A n c xs :=
  h.below ((Below.refl _ _).alloc (Nat.le_refl _) o)
theorem Rf.drew {w : World} {A : Option Addr} {n c : Nat} {xs : List Nat} (h : Rf w A n c xs) : Rf w.drew A n c xs := h.below (Below.refl _ _).drew
theorem Rf.nil_ (w : World) : Rf w none 0 0 [] := ⟨rfl, Nat.le_refl _, by simp [maxLen], fun _ => rfl, fun h => absurd h (by omega)⟩
/-- What is owned reads. -/
theorem Rf.own {w : World} {B e n : Nat} {A : Option Addr} {c : Nat} {xs : List Nat} (h : w.ownsRow B e 1 (.slice A n c) n (fv xs)) : Rf w A n c xs := by
  have hl : xs.length = n := by have := h.1; simp [fv_length] at this; exact this
  rcases h.2 with ⟨hv, hn⟩ | ⟨g, cap, cur, hv, _, hh, hnc, hcm, _, htake⟩
  · injection hv with h1 h2 h3
    subst h1 h2 h3
    have : xs = [] := List.eq_nil_of_length_eq_zero hl
    subst this
    exact Rf.nil_ w
  · injection hv with h1 h2 h3
    subst h1 h3
    refine ⟨hl, hnc, hcm, (fun h => by cases h), fun hn => ⟨g, 0, rfl, (Array.getElem?_eq_some_iff.1 hh).1, fun j hj => ?_⟩⟩
    have := h.cellAt j (by omega)
    rw [Nat.zero_add, this, fv_at xs j (by omega)]
    simp [List.getD, hl ▸ hj]

/-- s[lo:hi], as the model spells the address. -/
theorem Rf.cut {w : World} {A : Option Addr} {n c : Nat} {xs : List Nat} (h : Rf w A n c xs) {k : Nat} (hk : k ≤ n) :
    Rf w (if c = k then A else A.map (·.add k)) (n - k) (c - k) (xs.drop k) := by
  have hc := h.cap
  refine ⟨by simp [h.len], by omega, by have := h.max; omega, fun e => ?_, fun hn => ?_⟩
  · split at e
    · have := h.nil e; omega
    · have : A = none := by simpa using e
      have := h.nil this; omega
  · obtain ⟨b, off, rfl, hb, hcell⟩ := h.at_ (by omega)
    rw [if_neg (by omega)]
    refine ⟨b, off + k, ?_, hb, fun j hj => ?_⟩
    · simp only [Option.map_some, Addr.add]
      split
      · subst_vars; rfl
      · rfl
    · have := hcell (k + j) (by omega)
      rw [Nat.add_assoc, this]
      simp [List.getD, List.getElem?_drop]
theorem Rf.take {w : World} {A : Option Addr} {n c : Nat} {xs : List Nat} (h : Rf w A n c xs) {k : Nat} (hk : k ≤ n) : Rf w A k c (xs.take k) := by
  have hl := h.len
  have hc := h.cap
  refine ⟨by simp; omega, by omega, h.max, h.nil, fun hn => ?_⟩
  obtain ⟨b, off, rfl, hb, hcell⟩ := h.at_ (by omega)
  refine ⟨b, off, rfl, hb, fun j hj => ?_⟩
  rw [hcell j (by omega)]
  simp [List.getD, List.getElem?_take, hj]

/-- 'out = append(out, p...)': out nil or the call's own, p whatever numbers. -/
theorem append_rf {w : World} {ops : Array Oper} {rest : List Oper} {o : Oper} {a : Act} {Q : Exit → Act → World → Prop} (hgd : o.guard = none) (s x : Operand)
    (ho : o.op = .call { callee := .builtin .append, args := #[s, x], argTypes := #[28, 28] })
    (base : Nat) (v : Value) (n : Nat) (xs : List Nat) (hs : a.eval s = v) (hown : w.ownsRow base 22 1 v n (fv xs))
    (A : Option Addr) (m c : Nat) (ys : List Nat) (hx : a.eval x = .slice A m c) (hr : Rf w A m c ys) (hb : n + m ≤ 1000000000000) (hbase : base ≤ w.heap.size)
    (h : ∀ v' w', w'.ownsRow base 22 1 v' (n + m) (fv (xs ++ ys)) → w.grownBy w' v.ownBlock → wpList Try.prog ops Q rest (a.put o.dst v') w') : wpList Try.prog ops Q (o :: rest) a w := by
  obtain ⟨i0, hi, hz0, hz1, hz2⟩ := info_parts Try.infoF
  rcases A with _ | ad
  · have hc := hr.nil rfl
    have hm : m = 0 := by have := hr.cap; omega
    subst hc hm
    obtain rfl : ys = [] := List.eq_nil_of_length_eq_zero hr.len
    exact wpList_append_own_none hgd s x _ ho base 22 i0 1 Try.underlying28 hi v n (fv xs) hs hown hx (h v w (by simpa using hown) (World.grownBy.refl _ _))
  · refine wpList_append_own w hgd s x _ ho base 22 i0 (.float .f64 0) 1 8 Try.underlying28 hi hz0 hz1 hz2 rfl (by omega) v n (fv xs) hs hown ad m c (fv ys) hx (by simp [fv_length, hr.len]) ?_ (fv_one _)
      (by simp only [maxLen]; omega) (by omega) hbase fun v' w' h1 h2 _ => h v' w' (by rw [fv_append]; exact h1) h2
    intro j u hj
    have hl := hr.len
    have hjl : j < ys.length := by
      rcases Nat.lt_or_ge j ys.length with h | h
      · exact h
      · rw [List.getElem?_eq_none (by simpa [fv_length] using h)] at hj; cases hj
    obtain ⟨b, off, e, _, hc⟩ := hr.at_ (by omega)
    injection e with e
    subst e
    have hp : (⟨b, off, none⟩ : Addr).add j = ⟨b, off + j, none⟩ := by unfold Addr.add; split <;> simp_all
    rw [fv_at ys j hjl] at hj
    rw [hp, hc j (by omega), ← hj]
    simp [List.getD, hjl]

theorem own_lenf {w : World} {B e n : Nat} {v : Value} {xs : List Nat} (h : w.ownsRow B e 1 v n (fv xs)) : xs.length = n := by
  have := h.1; simp [fv_length] at this; exact this
theorem own_lit_f (w : World) (B : Nat) (xs : List Nat) (hB : B ≤ w.heap.size) (hm : xs.length ≤ maxLen) :
    (w.alloc (.cells (fv xs).toArray 22)).ownsRow B 22 1 (.slice (some ⟨w.heap.size, 0, none⟩) xs.length xs.length) xs.length (fv xs) := by
  have := World.ownsRow_lit (base := B) (e := 22) (size := 1) w (fv xs).toArray xs.length hB hm (by simp [fv_length])
  simpa using this
theorem rf_lits (w : World) (vs : Array Value) (xs : List Nat) (h : vs.toList = fv xs) (hm : xs.length ≤ maxLen) (b : Nat) (hb : w.heap.size = b) : Rf (w.alloc (.cells vs 22)) (some ⟨b, 0, none⟩) xs.length xs.length xs := by
  subst hb
  obtain ⟨vs⟩ := vs
  simp only at h
  subst h
  exact Rf.own (own_lit_f w 0 xs (Nat.zero_le _) hm)
/-- What a call gives: numbers in new memory. -/
def NewF (B : Nat) (w : World) (xs : List Nat) (e : Ending) (w' : World) : Prop :=
  ∃ (A : Option Addr) (n c : Nat), e = .returned (.slice A n c) ∧ w'.ownsRow B 22 1 (.slice A n c) n (fv xs) ∧ Below B w w'
theorem NewF.mk {B : Nat} {w w' : World} {v : Value} {n : Nat} {xs : List Nat} (h : w'.ownsRow B 22 1 v n (fv xs)) (hb : Below B w w') : NewF B w xs (.returned v) w' := by
  obtain ⟨A, c, rfl⟩ := own_form h
  exact ⟨A, n, c, rfl, h, hb⟩
theorem newf_len {B : Nat} {w w' : World} {xs : List Nat} {e : Ending} (h : NewF B w xs e w') : ∃ (A : Option Addr) (c : Nat), e = .returned (.slice A xs.length c) ∧ Rf w' A xs.length c xs ∧ w'.ownsRow B 22 1 (.slice A xs.length c) xs.length (fv xs) ∧ Below B w w' := by
  obtain ⟨A, n, c, rfl, ho, hb⟩ := h
  have hn := own_lenf ho
  subst hn
  exact ⟨A, c, rfl, Rf.own ho, ho, hb⟩
theorem run_cutFH {A : Option Addr} {n c m : Nat} {h : Int} (hh : h = (m : Nat)) (hk : m ≤ c) (W : World) :
    (Instr.slice 28 (.slice A n c) none (some (.int .i64 h)) none).run Try.prog W = .ok (.slice A m c) W := by
  have ee : Try.prog.elem 28 = 22 := by kernel_rfl
  have hs : (sizeOf 22).run Try.prog W = .ok 1 W := by kernel_rfl
  subst hh
  rw [run_slice_h W 28 A n c (by rw [ee]; exact Try.underlying28) .i64 (m : Int) (by omega) (by omega), ee, hs]
  simp only [Result.andThen, sliced, Nat.mul_one, Int.toNat_natCast, Nat.sub_zero]
  have : A.map (·.add 0) = A := by cases A <;> simp [Addr.add]
  rw [this]
  split <;> rfl
theorem run_cutFHAt {A : Option Addr} {n c m : Nat} {h : Int} (hh : h = (m : Nat)) (hk : m ≤ c) (W : World) :
    (Instr.sliceAt 28 (.slice A n c) none (some (.int .i64 h)) none).run Try.prog W = .ok (.slice A m c) W := by
  have ee : Try.prog.elem 28 = 22 := by kernel_rfl
  rw [run_sliceAt_slice W 28 _ _ _ _ (by rw [ee]; exact Try.underlying28)]
  exact run_cutFH hh hk W
theorem news_rf {w : World} {ad : Addr} {m c : Nat} {ys : List Nat} (hr : Rf w (some ad) m c ys) : ∀ j u, (fv ys)[j]? = some u → w.cell? (ad.add j) = some u := by
  intro j u hj
  have hl := hr.len
  have hjl : j < ys.length := by
    rcases Nat.lt_or_ge j ys.length with h | h
    · exact h
    · rw [List.getElem?_eq_none (by simpa [fv_length] using h)] at hj; cases hj
  obtain ⟨b, off, e, _, hc⟩ := hr.at_ (by omega)
  injection e with e
  subst e
  have hp : (⟨b, off, none⟩ : Addr).add j = ⟨b, off + j, none⟩ := by unfold Addr.add; split <;> simp_all
  rw [fv_at ys j hjl] at hj
  rw [hp, hc j (by omega), ← hj]
  simp [List.getD, hjl]

/-- append at a step of a region that draws its order; where the new row lies. -/
theorem step_append_rf {w : World} {ops : Array Oper} {o : Oper} {a : Act} {K : Act → World → Prop} {Q : Exit → Act → World → Prop} {E : Prop} (hw : Region.wanted o (yielded ops a.tmps) = true) (s x : Operand)
    (ho : o.op = .call { callee := .builtin .append, args := #[s, x], argTypes := #[28, 28] })
    (base : Nat) (v : Value) (n : Nat) (xs : List Nat) (hs : a.eval s = v) (hown : w.ownsRow base 22 1 v n (fv xs))
    (A : Option Addr) (m c : Nat) (ys : List Nat) (hx : a.eval x = .slice A m c) (hr : Rf w A m c ys) (hb : n + m ≤ 1000000000000) (hbase : base ≤ w.heap.size)
    (h : ∀ v' w', w'.ownsRow base 22 1 v' (n + m) (fv (xs ++ ys)) → w.grownBy w' v.ownBlock → (v'.ownBlock = v.ownBlock ∨ v'.ownBlock = some w.heap.size) → K (a.put o.dst v') w') :
    if Region.wanted o (yielded ops a.tmps) = true then Oper.wp Try.prog o a w K Q else E := by
  obtain ⟨i0, hi, hz0, hz1, hz2⟩ := info_parts Try.infoF
  rw [if_pos hw]
  rcases A with _ | ad
  · have hc := hr.nil rfl
    have hm : m = 0 := by have := hr.cap; omega
    subst hc hm
    obtain rfl : ys = [] := List.eq_nil_of_length_eq_zero hr.len
    have hrun := run_append_owned_none (P := Try.prog) (w := w) base 28 o.type 22 i0 1 Try.underlying28 hi v n (fv xs) hown
    unfold Oper.wp
    simp [execOp, ho, resolve, invoke, builtin, hs, hx, hrun, Result.andThen]
    exact h v w (by simpa using hown) (World.grownBy.refl _ _) (.inl rfl)
  · obtain ⟨v', w', hrun, h2, h3, _, h5⟩ := run_append_own_at (P := Try.prog) w base 28 o.type 22 i0 (.float .f64 0) 1 8 Try.underlying28 hi hz0 hz1 hz2 rfl (by omega) v n (fv xs) hown ad m c (fv ys)
      (by simp [fv_length, hr.len]) (news_rf hr) (fv_one _) (by simp only [maxLen]; omega) (by omega) hbase
    unfold Oper.wp
    simp [execOp, ho, resolve, invoke, builtin, hs, hx, hrun, Result.andThen]
    exact h v' w' (by rw [fv_append]; exact h2) h3 h5

theorem run_cutFL {A : Option Addr} {n c k : Nat} {l : Int} (hl : l = k) (hk : k ≤ n) (W : World) :
    (Instr.slice 28 (.slice A n c) (some (.int .i64 l)) none none).run Try.prog W = .ok (.slice (if c = k then A else A.map (·.add k)) (n - k) (c - k)) W := by
  have ee : Try.prog.elem 28 = 22 := by kernel_rfl
  have hs : (sizeOf 22).run Try.prog W = .ok 1 W := by kernel_rfl
  subst hl
  rw [run_slice_l W 28 A n c (by rw [ee]; exact Try.underlying28) .i64 k (by omega) (by omega), ee, hs]
  simp [Result.andThen, sliced]
theorem run_cutFLAt {A : Option Addr} {n c k : Nat} {l : Int} (hl : l = k) (hk : k ≤ n) (W : World) :
    (Instr.sliceAt 28 (.slice A n c) (some (.int .i64 l)) none none).run Try.prog W = .ok (.slice (if c = k then A else A.map (·.add k)) (n - k) (c - k)) W := by
  have ee : Try.prog.elem 28 = 22 := by kernel_rfl
  rw [run_sliceAt_slice W 28 _ _ _ _ (by rw [ee]; exact Try.underlying28)]
  exact run_cutFL hl hk W
end Go.Proofs.Ytkanckphkmilkaa.F
