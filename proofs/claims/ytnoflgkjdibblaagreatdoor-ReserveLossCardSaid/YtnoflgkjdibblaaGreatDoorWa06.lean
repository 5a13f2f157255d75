/-
  Texts put together: Dk5, Dk6, Dk7, Dk8. No statement is proved here.
-/
import Derived.Test.YtnoflgkjdibblaaGreatDoorWa05
import Derived.Deep.Cut
import Derived.Deep.RegionHeld3

/-
  Rows of whole numbers, and append to such a row at a step. No statement is proved here.
-/
namespace Go.Proofs.YtnoflgkjdibblaaGreatDoor.S19
set_option linter.unusedSimpArgs false
set_option linter.unusedVariables false
set_option maxRecDepth 4096
open Go.RowKit

theorem Tryz.infoZ : (Tryz.prog.info? 3).map (fun i => (i.zero, i.size, i.bytes)) = some (some (.int .i64 0), 1, 8) := by kernel_rfl
def zv (xs : List Int) : List Value := xs.map fun b => Value.int .i64 b
theorem zv_length (xs : List Int) : (zv xs).length = xs.length := by simp [zv]
theorem zv_append (xs ys : List Int) : zv (xs ++ ys) = zv xs ++ zv ys := by simp [zv]
theorem zv_at (xs : List Int) (i : Nat) (h : i < xs.length) : (zv xs)[i]? = some (.int .i64 xs[i]) := by simp [zv, h]
theorem zv_one (xs : List Int) : ∀ u ∈ zv xs, u.oneCell' = true := by
  intro u hu
  simp only [zv, List.mem_map] at hu
  obtain ⟨b, _, rfl⟩ := hu
  rfl
theorem RI.own {w : World} {B e n : Nat} {A : Option Addr} {c : Nat} {xs : List Int} (h : w.ownsRow B e 1 (.slice A n c) n (zv xs)) : RI w .i64 A n c xs := by
  have hl : xs.length = n := by have := h.1; simp [zv_length] at this; exact this
  rcases h.2 with ⟨hv, hn⟩ | ⟨g, cap, cur, hv, _, hh, hnc, hcm, _, htake⟩
  · injection hv with h1 h2 h3
    subst h1 h2 h3
    have : xs = [] := List.eq_nil_of_length_eq_zero hl
    subst this
    exact RI.nil_ w _
  · injection hv with h1 h2 h3
    subst h1 h3
    refine ⟨hl, hnc, hcm, (fun h => by cases h), fun hn => ⟨g, 0, rfl, (Array.getElem?_eq_some_iff.1 hh).1, fun j hj => ?_⟩⟩
    have := h.cellAt j (by omega)
    rw [Nat.zero_add, this, zv_at xs j (by omega)]
    simp [List.getD, hl ▸ hj]
theorem news_zi {w : World} {ad : Addr} {m c : Nat} {ys : List Int} (hr : RI w .i64 (some ad) m c ys) : ∀ j u, (zv ys)[j]? = some u → w.cell? (ad.add j) = some u := by
  intro j u hj
  have hl := hr.len
  have hjl : j < ys.length := by
    rcases Nat.lt_or_ge j ys.length with h | h
    · exact h
    · rw [List.getElem?_eq_none (by simpa [zv_length] using h)] at hj; cases hj
  obtain ⟨b, off, e, _, hc⟩ := hr.at_ (by omega)
  injection e with e
  subst e
  have hp : (⟨b, off, none⟩ : Addr).add j = ⟨b, off + j, none⟩ := by unfold Addr.add; split <;> simp_all
  rw [zv_at ys j hjl] at hj
  rw [hp, hc j (by omega), ← hj]
  simp [List.getD, hjl]
/-- append to a row of whole numbers, at a step. -/
theorem step_append_zi {w : World} {ops : Array Oper} {o : Oper} {a : Act} {K : Act → World → Prop} {Q : Exit → Act → World → Prop} {E : Prop} (hw : Region.wanted o (yielded ops a.tmps) = true) (s x : Operand)
    (ho : o.op = .call { callee := .builtin .append, args := #[s, x], argTypes := #[49, 49] })
    (base : Nat) (v : Value) (n : Nat) (xs : List Int) (hs : a.eval s = v) (hown : w.ownsRow base 3 1 v n (zv xs))
    (ad : Addr) (m c : Nat) (ys : List Int) (hx : a.eval x = .slice (some ad) m c) (hr : RI w .i64 (some ad) m c ys) (hb : n + m ≤ 2000000000000) (hbase : base ≤ w.heap.size)
    (h : ∀ v' w', w'.ownsRow base 3 1 v' (n + m) (zv (xs ++ ys)) → w.grownBy w' v.ownBlock → (v'.ownBlock = v.ownBlock ∨ v'.ownBlock = some w.heap.size) → K (a.put o.dst v') w') :
    if Region.wanted o (yielded ops a.tmps) = true then Oper.wp Tryz.prog o a w K Q else E := by
  obtain ⟨i0, hi, hz0, hz1, hz2⟩ := info_parts Tryz.infoZ
  rw [if_pos hw]
  obtain ⟨v', w', hrun, h2, h3, _, h5⟩ := run_append_own_at (P := Tryz.prog) w base 49 o.type 3 i0 (.int .i64 0) 1 8 Tryz.underlying49 hi hz0 hz1 hz2 rfl (by omega) v n (zv xs) hown ad m c (zv ys)
      (by simp [zv_length, hr.len]) (news_zi hr) (zv_one _) (by simp only [maxLen]; omega) (by omega) hbase
  unfold Oper.wp
  simp [execOp, ho, resolve, invoke, builtin, hs, hx, hrun, Result.andThen]
  exact h v' w' (by rw [zv_append]; exact h2) h3 h5
theorem ri_lit (w : World) (z : Int) (b : Nat) (hb : w.heap.size = b) : RI (w.alloc (.cells #[.int .i64 z] 3)) .i64 (some ⟨b, 0, none⟩) 1 1 [z] := by
  subst hb
  have := World.ownsRow_lit (base := 0) (e := 3) (size := 1) w (zv [z]).toArray 1 (Nat.zero_le _) (by simp [maxLen]) (by simp [zv])
  rw [show (zv [z]).toArray = #[Value.int .i64 z] from rfl] at this
  exact RI.own (B := 0) (e := 3) (by simpa [zv] using this)
theorem RI.cell {w : World} {k : IntKind} {A : Option Addr} {n c : Nat} {xs : List Int} (h : RI w k A n c xs) {i : Nat} (hi : i < n) : ∃ b off, A = some ⟨b, off, none⟩ ∧ b < w.heap.size ∧ w.cell? ⟨b, off + i, none⟩ = some (.int k (xs.getD i 0)) := by
  obtain ⟨b, off, rfl, hb, hc⟩ := h.at_ (by omega)
  exact ⟨b, off, rfl, hb, hc i hi⟩
end Go.Proofs.YtnoflgkjdibblaaGreatDoor.S19

/-
  What a statement holds of a disk: what is calm, and what was written last. No statement is proved here.
-/
namespace Go.Proofs.YtnoflgkjdibblaaGreatDoor.S19
set_option linter.unusedSimpArgs false
set_option linter.unusedVariables false
set_option maxRecDepth 4096
open Go.RowKit

/-- A row of rows that a statement holds; it lies apart from F. -/
structure Ws (w : World) (N : Nat) (F : Nat → Prop) (b k : Nat) (f : Nat → List UInt8) : Prop where
  lo : N ≤ b
  own : ¬ F b
  ex : ∃ vs : Array Value, Bk w b 23 vs ∧ vs.size = k ∧ ∀ j, j < k → ∃ A n c, vs[j]? = some (.slice A n c) ∧ Rd w A n c (f j) ∧ ∀ a, 0 < n → A = some a → ¬ F a.block
/-- A row of bytes does not lie where slices lie. -/
theorem rd_ne {w : World} {A : Option Addr} {n c b : Nat} {xs : List UInt8} {T : TypeId} {vs : Array Value} (h : Rd w A n c xs) (hb : Bk w b T vs) (hv : ∀ (j : Nat) v, vs[j]? = some v → ∃ A n c, v = .slice A n c) : ∀ a, 0 < n → A = some a → a.block ≠ b := by
  rintro a hn rfl rfl
  obtain ⟨b', off, e, _, hc⟩ := h.at_ hn
  injection e with e
  subst e
  have h0 := hc 0 hn
  rw [hb.cell] at h0
  obtain ⟨A, n, c, e⟩ := hv _ _ h0
  cases e
theorem rd_farB {w : World} {A : Option Addr} {n c b : Nat} {xs : List UInt8} (h : Rd w A n c xs) (hb : ∀ a, 0 < n → A = some a → a.block ≠ b) (i : Nat) (u : Value) : Rd (w.setCell ⟨b, i, none⟩ u) A n c xs := by
  refine ⟨h.len, h.cap, h.max, h.nil, fun hn => ?_⟩
  obtain ⟨b', off, rfl, hl, hc⟩ := h.at_ hn
  exact ⟨b', off, rfl, by simpa using hl, fun j hj => (World.cell?_of_block (a := ⟨b', off + j, none⟩) (Below.heap_setCell w ⟨b, i, none⟩ u b' (hb _ hn rfl))).trans (hc j hj)⟩
section
variable {w w' : World} {N : Nat} {F F' : Nat → Prop} {b b' k k' : Nat} {f f' : Nat → List UInt8}
theorem Ws.slices (h : Ws w N F b k f) : ∃ vs : Array Value, Bk w b 23 vs ∧ vs.size = k ∧ ∀ (j : Nat) v, vs[j]? = some v → ∃ A n c, v = .slice A n c := by
  obtain ⟨vs, h1, h2, h3⟩ := h.ex
  refine ⟨vs, h1, h2, fun j v hv => ?_⟩
  have hj : j < k := by rw [← h2]; exact (Array.getElem?_eq_some_iff.1 hv).1
  obtain ⟨A, n, c, h4, _⟩ := h3 j hj
  rw [hv] at h4
  exact ⟨A, n, c, Option.some.inj h4⟩
theorem Ws.lt (h : Ws w N F b k f) : b < w.heap.size := by
  obtain ⟨vs, h1, _⟩ := h.ex
  exact h1.lt
theorem Ws.at_ (h : Ws w N F b k f) {j : Nat} (hj : j < k) : ∃ A n c, w.cell? ⟨b, j, none⟩ = some (.slice A n c) ∧ Rd w A n c (f j) ∧ ∀ a, 0 < n → A = some a → ¬ F a.block := by
  obtain ⟨vs, h1, _, h3⟩ := h.ex
  obtain ⟨A, n, c, h4, h5, h6⟩ := h3 j hj
  exact ⟨A, n, c, (h1.cell j).trans h4, h5, h6⟩
theorem Ws.frozen (h : Ws w N F b k f) (j : Nat) : w.frozen? ⟨b, j, none⟩ = false := by
  obtain ⟨vs, h1, _⟩ := h.ex
  exact h1.frozen j
theorem Ws.mv (h : Ws w N F b k f) (m : Mv N F w w') (hF : ∀ x, F' x → F x ∨ w.heap.size ≤ x) : Ws w' N F' b k f := by
  obtain ⟨vs, h1, h2, h3⟩ := h.ex
  refine ⟨h.lo, fun e => ?_, vs, m.bk h1 h.own, h2, fun j hj => ?_⟩
  · rcases hF _ e with e | e
    · exact h.own e
    · have := h1.lt; omega
  · obtain ⟨A, n, c, h4, h5, h6⟩ := h3 j hj
    refine ⟨A, n, c, h4, m.rd h5 h6, fun a hn ha e => ?_⟩
    rcases hF _ e with e | e
    · exact h6 a hn ha e
    · obtain ⟨b', off, e', hb', _⟩ := h5.at_ hn
      rw [ha] at e'
      injection e' with e'
      subst e'
      simp at e
      omega
theorem Ws.grow (h : Ws w N F b k f) (hb : Below w.heap.size w w') (hF : ∀ x, F x → x < w.heap.size) : Ws w' N F b k f := by
  obtain ⟨vs, h1, h2, h3⟩ := h.ex
  refine ⟨h.lo, h.own, vs, h1.below hb h1.lt, h2, fun j hj => ?_⟩
  obtain ⟨A, n, c, h4, h5, h6⟩ := h3 j hj
  exact ⟨A, n, c, h4, h5.below hb, h6⟩
theorem Ws.ext (h : Ws w N F b k f) (hf : ∀ j, j < k → f' j = f j) : Ws w N F b k f' := by
  obtain ⟨vs, h1, h2, h3⟩ := h.ex
  refine ⟨h.lo, h.own, vs, h1, h2, fun j hj => ?_⟩
  obtain ⟨A, n, c, h4, h5, h6⟩ := h3 j hj
  exact ⟨A, n, c, h4, by rw [hf j hj]; exact h5, h6⟩
def upd (f : Nat → List UInt8) (i : Nat) (xs : List UInt8) : Nat → List UInt8 := fun j => if j = i then xs else f j
theorem Ws.set (h : Ws w N F b k f) {i : Nat} (hi : i < k) {A : Option Addr} {n c : Nat} {xs : List UInt8} (hr : Rd w A n c xs) (hF : ∀ a, 0 < n → A = some a → ¬ F a.block) : Ws (w.setCell ⟨b, i, none⟩ (.slice A n c)) N F b k (upd f i xs) := by
  obtain ⟨vs, h1, h2, h7⟩ := h.slices
  obtain ⟨vs', h1', _, h3⟩ := h.ex
  have e : vs' = vs := by
    have := h1'.symm.trans h1
    injection this with this
    injection this
  subst e
  refine ⟨h.lo, h.own, _, h1.put i _, by simpa using h2, fun j hj => ?_⟩
  by_cases hji : j = i
  · subst hji
    refine ⟨A, n, c, by simp [h2, hj], ?_, hF⟩
    simp only [upd, if_pos]
    exact rd_farB hr (rd_ne hr h1 h7) _ _
  · obtain ⟨A', n', c', h4, h5, h6⟩ := h3 j hj
    refine ⟨A', n', c', by rw [Array.getElem?_setIfInBounds_ne (Ne.symm hji)]; exact h4, ?_, h6⟩
    simp only [upd, if_neg hji]
    exact rd_farB h5 (rd_ne h5 h1 h7) _ _
theorem Ws.other (h : Ws w N F b k f) (h' : Ws w N F b' k' f') (hne : b ≠ b') (i : Nat) (u : Value) : Ws (w.setCell ⟨b', i, none⟩ u) N F b k f := by
  obtain ⟨vs', h1', _, h7⟩ := h'.slices
  obtain ⟨vs, h1, h2, h3⟩ := h.ex
  refine ⟨h.lo, h.own, vs, h1.far (by exact hne) u, h2, fun j hj => ?_⟩
  obtain ⟨A, n, c, h4, h5, h6⟩ := h3 j hj
  exact ⟨A, n, c, h4, rd_farB h5 (rd_ne h5 h1' h7) _ _, h6⟩
theorem Ws.new {B : Nat} (ho : w.ownsRow B 23 1 (.slice (some ⟨b, 0, none⟩) k k) k (List.replicate k (.slice none 0 0))) (lo : N ≤ b) (own : ¬ F b) : Ws w N F b k (fun _ => []) := by
  rcases ho.2 with ⟨h1, _⟩ | ⟨g, cap, cur, h1, _, hh, hnc, hcm, hs, ht⟩
  · cases h1
  · injection h1 with h1 h2 h3
    injection h1 with h1
    injection h1 with h1
    subst h1 h3
    rw [Nat.mul_one] at hs ht
    rw [List.take_of_length_le (by rw [Array.length_toList, hs]; exact Nat.le_refl _)] at ht
    refine ⟨lo, own, cur, hh, hs, fun j hj => ⟨none, 0, 0, ?_, Rd.nil_ _, fun a hn => by omega⟩⟩
    have : cur.toList[j]? = some (.slice none 0 0) := by rw [ht]; simp [hj]
    simpa using this
end
theorem DC.keepSet (M : DC) {w : World} {N g b : Nat} {D : Dk} {F : Nat → Prop} (h : M.Is N w g D F) (hb : N ≤ b) (hF : ¬ F b) (i : Nat) (u : Value) : M.Is N (w.setCell ⟨b, i, none⟩ u) g D F :=
  M.keep h (by simp) fun x hx _ => Below.heap_setCell w ⟨b, i, none⟩ u x (by
    rintro rfl
    rcases hx with hx | hx
    · exact absurd hb (Nat.not_le.2 hx)
    · exact hF hx)

/-- What a statement knows of a disk. -/
structure Sd (k : Nat) (D : Dk) (cf lf : Nat → List UInt8) : Prop where
  ok : D.Ok
  len : D.sure.length = k
  last : ∀ j, j < k → lf j = D.atS j
  calm : ∀ j, j < k → cf j = [] ∨ (cf j = D.sure.getD j [] ∧ ∀ p ∈ D.pend, p.1 ≠ j)
theorem Sd.start {k : Nat} (h1 : 1 ≤ k) (h2 : k ≤ 256) : Sd k (Dk.new k) (fun _ => List.replicate 64 0) (fun _ => List.replicate 64 0) := by
  refine ⟨Dk.new_ok h1 h2, by simp [Dk.new], fun j hj => ?_, fun j hj => .inr ⟨?_, fun p hp => by simp [Dk.new] at hp⟩⟩
  · simp [Dk.atS, Dk.new, Dk.lastOf, List.getD, hj]
  · simp [Dk.new, List.getD, hj]
section
variable {k : Nat} {D : Dk} {cf lf : Nat → List UInt8}
theorem Sd.step (h : Sd k D cf lf) : Sd k D.step cf lf := by
  refine ⟨Dk.step_ok h.ok, by rw [Dk.step_sure]; exact h.len, fun j hj => ?_, fun j hj => ?_⟩
  · rw [h.last j hj, Dk.atS, Dk.atS, Dk.step_sure, Dk.step_pend]
  · rw [Dk.step_sure, Dk.step_pend]; exact h.calm j hj
theorem Sd.halt (h : Sd k D cf lf) : Sd k D.halt cf lf := ⟨Dk.halt_ok h.ok, h.len, h.last, h.calm⟩
theorem Sd.plan (h : Sd k D cf lf) (fs : List Int) (st : Int) : Sd k (D.plan fs st) cf lf := ⟨Dk.plan_ok h.ok _ _, h.len, h.last, h.calm⟩
theorem Sd.write0 (h : Sd k D cf lf) {i : Int} {b : List UInt8} (hc : D.writeC i b = 0) : ∃ n : Nat, i = n ∧ n < k ∧ b.length = 64 ∧ Sd k (D.write i b) (upd cf n []) (upd lf n b) := by
  have ho : D.off = false := by
    cases e : D.off
    · rfl
    · rw [Dk.writeC, if_pos e] at hc; cases hc
  have hh : D.has i ∧ b.length = 64 := by
    by_cases e : D.has i ∧ b.length = 64
    · exact e
    · rw [Dk.writeC, ho, if_neg (by simp), if_neg e] at hc; cases hc
  have hs : D.stepC = 0 := by rwa [Dk.writeC, ho, if_neg (by simp), if_pos hh] at hc
  have hw : D.write i b = { D.step with pend := D.pend ++ [(i.toNat, b)] } := by
    rw [Dk.write, ho, if_neg (by simp), if_pos hh, if_pos hs]
  have hr : 0 ≤ i ∧ i < (k : Int) := by have := hh.1; unfold Dk.has at this; rw [h.len] at this; exact this
  refine ⟨i.toNat, by omega, by omega, hh.2, ?_⟩
  refine ⟨Dk.write_ok h.ok i b, by rw [hw]; show D.step.sure.length = k; rw [Dk.step_sure]; exact h.len, fun j hj => ?_, fun j hj => ?_⟩
  · rw [hw]
    show upd lf i.toNat b j = Dk.lastOf j (D.pend ++ [(i.toNat, b)]) (D.step.sure.getD j [])
    rw [Dk.lastOf_append, Dk.step_sure, upd]
    by_cases e : j = i.toNat
    · rw [if_pos e, if_pos e.symm]
    · rw [if_neg e, if_neg (Ne.symm e), h.last j hj]; rfl
  · rw [hw]
    show upd cf i.toNat [] j = [] ∨ (upd cf i.toNat [] j = D.step.sure.getD j [] ∧ ∀ p ∈ D.pend ++ [(i.toNat, b)], p.1 ≠ j)
    rw [Dk.step_sure, upd]
    by_cases e : j = i.toNat
    · rw [if_pos e]; exact .inl rfl
    · rw [if_neg e]
      rcases h.calm j hj with h1 | ⟨h1, h2⟩
      · exact .inl h1
      · refine .inr ⟨h1, fun p hp => ?_⟩
        rw [List.mem_append, List.mem_singleton] at hp
        rcases hp with hp | rfl
        · exact h2 p hp
        · exact Ne.symm e
theorem Sd.writeN (h : Sd k D cf lf) {i : Int} {b : List UInt8} (hc : D.writeC i b ≠ 0) : Sd k (D.write i b) cf lf := by
  unfold Dk.write
  by_cases ho : D.off = true
  · rw [if_pos ho]; exact h
  · rw [if_neg ho]
    by_cases hh : D.has i ∧ b.length = 64
    · rw [if_pos hh]
      rw [Dk.writeC, if_neg ho, if_pos hh] at hc
      rw [if_neg hc]
      exact h.step
    · rw [if_neg hh]; exact h
theorem Sd.flush0 (h : Sd k D cf lf) (hc : D.stepC = 0) : Sd k D.flush lf lf := by
  have ho : ¬ D.off = true := by
    intro e
    rw [Dk.stepC, if_pos e] at hc; cases hc
  have hf : D.flush = { D.step with sure := Dk.laid D.pend D.sure, pend := [] } := by rw [Dk.flush, if_neg ho, if_pos hc]
  have hl : ∀ j, j < k → lf j = (Dk.laid D.pend D.sure).getD j [] := fun j hj => by
    rw [Dk.laid_at _ _ (by rw [h.len]; exact hj)]; exact h.last j hj
  refine ⟨Dk.flush_ok h.ok, by rw [hf]; show (Dk.laid _ _).length = k; rw [Dk.laid_len]; exact h.len, fun j hj => ?_, fun j hj => .inr ⟨?_, fun p hp => ?_⟩⟩
  · rw [hf]; exact hl j hj
  · rw [hf]; exact hl j hj
  · rw [hf] at hp; cases hp
theorem Sd.flushN (h : Sd k D cf lf) (hc : D.stepC ≠ 0) : Sd k D.flush cf lf := by
  unfold Dk.flush
  by_cases ho : D.off = true
  · rw [if_pos ho]; exact h
  · rw [if_neg ho, if_neg hc]; exact h.step
theorem Sd.up (h : Sd k D cf lf) (ch : List UInt8) (fs : List Int) (st : Int) : Sd k (D.up ch fs st) (fun j => (D.up ch fs st).sure.getD j []) (fun j => (D.up ch fs st).sure.getD j []) ∧ (D.up ch fs st).sure.length = k ∧ ∀ j, j < k → cf j = [] ∨ (D.up ch fs st).sure.getD j [] = cf j := by
  have hl : (D.up ch fs st).sure.length = k := by show (Dk.tear _ _ _ _).length = k; rw [Dk.tear_len]; exact h.len
  refine ⟨⟨Dk.up_ok h.ok _ _ _, hl, fun j hj => rfl, fun j hj => .inr ⟨rfl, fun p hp => by cases hp⟩⟩, hl, fun j hj => ?_⟩
  rcases h.calm j hj with h1 | ⟨h1, h2⟩
  · exact .inl h1
  · refine .inr ?_
    rw [h1]
    exact Dk.tear_at ch _ _ _ h2
theorem Sd.read (h : Sd k D cf lf) {j : Nat} (hj : j < k) : D.readC j = (if D.off = true then 6 else 0) ∧ (D.off = false → D.readB j = lf j) := by
  have hh : D.has j := by unfold Dk.has; rw [h.len]; omega
  have h1 : D.readC j = (if D.off = true then 6 else 0) := by
    unfold Dk.readC
    by_cases ho : D.off = true
    · rw [if_pos ho, if_pos ho]
    · rw [if_neg ho, if_neg ho, if_pos hh]
  refine ⟨h1, fun ho => ?_⟩
  simp [Dk.readB, h1, ho, h.last j hj]
theorem Sd.rows (h : Sd k D cf lf) {j : Nat} (hj : j < k) : (lf j).length = 64 ∧ (D.sure.getD j []).length = 64 :=
  ⟨by rw [h.last j hj]; exact Dk.atS_len h.ok (by rw [h.len]; exact hj), h.ok.rows _ (by rw [List.getD_eq_getElem?_getD, List.getElem?_eq_getElem (by rw [h.len]; exact hj)]; simp)⟩
end
end Go.Proofs.YtnoflgkjdibblaaGreatDoor.S19

/-
  The document's own disk in memory: where it lies, and what abides where its block is written. No statement is proved here.
-/
namespace Go.Proofs.YtnoflgkjdibblaaGreatDoor.S19
set_option linter.unusedSimpArgs false
set_option linter.unusedVariables false
set_option maxRecDepth 4096
open Go.RowKit

/-- The values that lie in the document's own disk. -/
structure RkV where
  vS : Value
  ss : List Value
  vW : Value
  vB : Value
  bs : List Value
  AF : Option Addr
  nF : Nat
  cF : Nat
def spine (h : Nat) (V : RkV) (b : Nat) : Prop := b = h ∨ V.vS.ownBlock = some b ∨ V.vW.ownBlock = some b ∨ V.vB.ownBlock = some b
def pendZ (p : List (Nat × List UInt8)) : List Int := p.map fun x => (x.1 : Int)
def pendR (p : List (Nat × List UInt8)) : List (List UInt8) := p.map fun x => x.2
theorem pendZ_len (p : List (Nat × List UInt8)) : (pendZ p).length = p.length := by simp [pendZ]
theorem pendR_len (p : List (Nat × List UInt8)) : (pendR p).length = p.length := by simp [pendR]
theorem pendR_at (p : List (Nat × List UInt8)) (i : Nat) : (pendR p).getD i [] = (p.getD i (0, [])).2 := by
  simp only [pendR, List.getD_eq_getElem?_getD, List.getElem?_map]
  cases p[i]? <;> rfl
/-- A row that reads so, in the blocks of G, but not where the disk itself is written. -/
def Rr (w : World) (G : Nat → Prop) (h : Nat) (V : RkV) (u : Option Value) (xs : List UInt8) : Prop := ∃ A n c, u = some (.slice A n c) ∧ Rd w A n c xs ∧ ∀ a, 0 < n → A = some a → G a.block ∧ ¬ spine h V a.block
/-- All but the block of the disk itself. -/
structure Rest (N : Nat) (w : World) (h : Nat) (sure : List (List UInt8)) (zs : List Int) (rs : List (List UInt8)) (fails : List Int) (G : Nat → Prop) (V : RkV) : Prop where
  oS : w.ownsRow N 23 1 V.vS sure.length V.ss
  rS : ∀ i, i < sure.length → Rr w G h V V.ss[i]? (sure.getD i [])
  oW : w.ownsRow N 3 1 V.vW zs.length (zv zs)
  oB : w.ownsRow N 23 1 V.vB rs.length V.bs
  rB : ∀ i, i < rs.length → Rr w G h V V.bs[i]? (rs.getD i [])
  rF : RI w .i64 V.AF V.nF V.cF fails
  inF : ∀ a, 0 < V.nF → V.AF = some a → (a.block < N ∨ G a.block) ∧ ¬ spine h V a.block
  inG : ∀ b, spine h V b → G b
  gN : ∀ b, G b → N ≤ b ∧ b < w.heap.size
  dS : ∀ b, V.vS.ownBlock = some b → b ≠ h ∧ V.vW.ownBlock ≠ some b ∧ V.vB.ownBlock ≠ some b
  dW : ∀ b, V.vW.ownBlock = some b → b ≠ h ∧ V.vS.ownBlock ≠ some b ∧ V.vB.ownBlock ≠ some b
  dB : ∀ b, V.vB.ownBlock = some b → b ≠ h ∧ V.vS.ownBlock ≠ some b ∧ V.vW.ownBlock ≠ some b
abbrev rkA (L : Value) (V : RkV) (stop cnt : Int) (off : Bool) : Array Value := #[L, V.vS, V.vW, V.vB, .slice V.AF V.nF V.cF, .int .i64 stop, .int .i64 cnt, .bool off]
/-- The document's own disk. -/
structure Rk (N : Nat) (w : World) (h : Nat) (L : Value) (D : Dk) (G : Nat → Prop) : Prop where
  ok : D.Ok
  ex : ∃ V, Bk w h 62 #[L, V.vS, V.vW, V.vB, .slice V.AF V.nF V.cF, .int .i64 D.stop, .int .i64 (D.cnt : Int), .bool D.off] ∧ Rest N w h D.sure (pendZ D.pend) (pendR D.pend) D.fails G V
section
variable {N : Nat} {w w' : World} {h : Nat} {G G' : Nat → Prop} {V : RkV} {sure : List (List UInt8)} {zs : List Int} {rs : List (List UInt8)} {fails : List Int}
theorem Rr.keep {u : Option Value} {xs : List UInt8} (r : Rr w G h V u xs) (hs : w.heap.size ≤ w'.heap.size) (hk : ∀ b, G b → ¬ spine h V b → b < w.heap.size → w'.heap[b]? = w.heap[b]?) : Rr w' G h V u xs := by
  obtain ⟨A, n, c, h1, h2, h3⟩ := r
  refine ⟨A, n, c, h1, ⟨h2.len, h2.cap, h2.max, h2.nil, fun hn => ?_⟩, h3⟩
  obtain ⟨b, off, rfl, hb, hc⟩ := h2.at_ hn
  obtain ⟨q1, q2⟩ := h3 _ hn rfl
  exact ⟨b, off, rfl, Nat.lt_of_lt_of_le hb hs, fun j hj => (World.cell?_of_block (a := ⟨b, off + j, none⟩) (hk b q1 q2 hb)).trans (hc j hj)⟩
theorem own_keepH {B e size n : Nat} {v : Value} {xs : List Value} (ho : w.ownsRow B e size v n xs) (hk : ∀ b, v.ownBlock = some b → b < w.heap.size → w'.heap[b]? = w.heap[b]?) : w'.ownsRow B e size v n xs := by
  refine ⟨ho.1, ?_⟩
  rcases ho.2 with h1 | ⟨g, cap, cur, h1, h2, h3, h4⟩
  · exact .inl h1
  · exact .inr ⟨g, cap, cur, h1, h2, (hk g (by rw [h1]; rfl) (Array.getElem?_eq_some_iff.1 h3).1).trans h3, h4⟩
/-- What abides where the disk's blocks, and those below N, are as they were. -/
theorem Rest.keep (r : Rest N w h sure zs rs fails G V) (hs : w.heap.size ≤ w'.heap.size) (hk : ∀ b, (b < N ∨ G b) → b < w.heap.size → w'.heap[b]? = w.heap[b]?) : Rest N w' h sure zs rs fails G V :=
  ⟨own_keepH r.oS fun b hb hlt => hk b (.inr (r.inG b (.inr (.inl hb)))) hlt,
    fun i hi => (r.rS i hi).keep hs fun b hb _ hlt => hk b (.inr hb) hlt,
    own_keepH r.oW fun b hb hlt => hk b (.inr (r.inG b (.inr (.inr (.inl hb))))) hlt,
    own_keepH r.oB fun b hb hlt => hk b (.inr (r.inG b (.inr (.inr (.inr hb))))) hlt,
    fun i hi => (r.rB i hi).keep hs fun b hb _ hlt => hk b (.inr hb) hlt,
    r.rF.keep hs fun a h1 h2 h3 => hk _ (r.inF a h1 h2).1 h3, r.inF, r.inG, fun b hb => ⟨(r.gN b hb).1, Nat.lt_of_lt_of_le (r.gN b hb).2 hs⟩, r.dS, r.dW, r.dB⟩
/-- The disk's own block is written. -/
theorem Rest.poke (r : Rest N w h sure zs rs fails G V) (i : Nat) (u : Value) : Rest N (w.setCell ⟨h, i, none⟩ u) h sure zs rs fails G V := by
  have hs : w.heap.size ≤ (w.setCell ⟨h, i, none⟩ u).heap.size := by simp
  have hk : ∀ b, b ≠ h → (w.setCell ⟨h, i, none⟩ u).heap[b]? = w.heap[b]? := fun b hb => Below.heap_setCell w ⟨h, i, none⟩ u b hb
  refine ⟨own_keepH r.oS fun b hb _ => hk b (r.dS b hb).1, fun j hj => (r.rS j hj).keep hs fun b _ hb _ => hk b fun e => hb (.inl e),
    own_keepH r.oW fun b hb _ => hk b (r.dW b hb).1, own_keepH r.oB fun b hb _ => hk b (r.dB b hb).1, fun j hj => (r.rB j hj).keep hs fun b _ hb _ => hk b fun e => hb (.inl e),
    r.rF.keep hs fun a h1 h2 _ => hk _ fun e => (r.inF a h1 h2).2 (.inl e), r.inF, r.inG, fun b hb => ⟨(r.gN b hb).1, Nat.lt_of_lt_of_le (r.gN b hb).2 hs⟩, r.dS, r.dW, r.dB⟩
theorem Rk.keep {L : Value} {D : Dk} (r : Rk N w h L D G) (hs : w.heap.size ≤ w'.heap.size) (hk : ∀ b, (b < N ∨ G b) → b < w.heap.size → w'.heap[b]? = w.heap[b]?) : Rk N w' h L D G := by
  obtain ⟨V, h1, h2⟩ := r.ex
  exact ⟨r.ok, V, (hk h (.inr (h2.inG h (.inl rfl))) h1.lt).trans h1, h2.keep hs hk⟩
theorem Rk.grow {L : Value} {D : Dk} (r : Rk N w h L D G) (hb : Below w.heap.size w w') : Rk N w' h L D G := r.keep hb.size fun b _ hlt => hb.block b hlt
theorem Rk.lt {L : Value} {D : Dk} (r : Rk N w h L D G) : ∀ b, G b → N ≤ b ∧ b < w.heap.size := by
  obtain ⟨V, h1, h2⟩ := r.ex
  exact h2.gN
theorem Mv.poke (hN : N ≤ h) (hG : G h) (w : World) (i : Nat) (u : Value) : Mv N G w (w.setCell ⟨h, i, none⟩ u) :=
  ⟨(Below.refl _ _).setCell (p := ⟨h, i, none⟩) hN u, fun b _ hb => Below.heap_setCell w ⟨h, i, none⟩ u b (by rintro rfl; exact hb hG)⟩
end
section
variable {N : Nat} {w wl w' : World} {h : Nat} {G : Nat → Prop} {V : RkV} {sure : List (List UInt8)} {zs : List Int} {rs : List (List UInt8)} {fails : List Int}
/-- A block that has come, or stayed. -/
abbrev plus (G : Nat → Prop) (v : Value) : Nat → Prop := fun b => G b ∨ v.ownBlock = some b
/-- What lies elsewhere abides where a row grows. -/
theorem grown_keep (hb : Below w.heap.size w wl) {row : Option Nat} (hg : wl.grownBy w' row) : ∀ b, b < w.heap.size → row ≠ some b → w'.heap[b]? = w.heap[b]? :=
  fun b h1 h2 => (hg.block b (Nat.lt_of_lt_of_le h1 hb.size) (Ne.symm h2)).trans (hb.block b h1)
/-- One number more. -/
theorem Rest.pushW (r : Rest N w h sure zs rs fails G V) (hb : Below w.heap.size w wl) {v' : Value} {z : Int} (ho : w'.ownsRow N 3 1 v' (zs ++ [z]).length (zv (zs ++ [z]))) (hg : wl.grownBy w' V.vW.ownBlock) (hv : v'.ownBlock = V.vW.ownBlock ∨ v'.ownBlock = some wl.heap.size) (hlt : ∀ b, v'.ownBlock = some b → b < w'.heap.size) :
    Rest N w' h sure (zs ++ [z]) rs fails (plus G v') { V with vW := v' } ∧ Mv N G w w' ∧ (∀ b, plus G v' b → G b ∨ w.heap.size ≤ b) := by
  have hsz : w.heap.size ≤ w'.heap.size := Nat.le_trans hb.size hg.size
  have hk := grown_keep hb hg
  have hG : ∀ b, V.vW.ownBlock = some b → G b := fun b e => r.inG b (.inr (.inr (.inl e)))
  have hnew : ∀ b, v'.ownBlock = some b → V.vW.ownBlock = some b ∨ w.heap.size ≤ b := fun b e => by
    rcases hv with hv | hv
    · exact .inl (hv ▸ e)
    · rw [hv] at e
      have := Option.some.inj e
      have := hb.size
      exact .inr (by omega)
  have hrow : ∀ u xs, Rr w G h V u xs → Rr w' (plus G v') h { V with vW := v' } u xs := by
    rintro u xs ⟨A, n, c, h1, h2, h3⟩
    refine ⟨A, n, c, h1, ⟨h2.len, h2.cap, h2.max, h2.nil, fun hn => ?_⟩, fun a hn ha => ?_⟩
    · obtain ⟨b, off, rfl, hlb, hc⟩ := h2.at_ hn
      obtain ⟨q1, q2⟩ := h3 _ hn rfl
      exact ⟨b, off, rfl, Nat.lt_of_lt_of_le hlb hsz, fun j hj => (World.cell?_of_block (a := ⟨b, off + j, none⟩) (hk b hlb fun e => q2 (.inr (.inr (.inl e))))).trans (hc j hj)⟩
    · obtain ⟨q1, q2⟩ := h3 a hn ha
      refine ⟨.inl q1, ?_⟩
      rintro (e | e | e | e)
      · exact q2 (.inl e)
      · exact q2 (.inr (.inl e))
      · rcases hnew _ e with e | e
        · exact q2 (.inr (.inr (.inl e)))
        · have := (r.gN _ q1).2; omega
      · exact q2 (.inr (.inr (.inr e)))
  refine ⟨⟨own_keepH r.oS fun b e hl => hk b hl (r.dS b e).2.1, fun i hi => hrow _ _ (r.rS i hi), ho, own_keepH r.oB fun b e hl => hk b hl (r.dB b e).2.2, fun i hi => hrow _ _ (r.rB i hi),
      r.rF.keep hsz fun a h1 h2 h3 => hk _ h3 fun e => (r.inF a h1 h2).2 (.inr (.inr (.inl e))), fun a h1 h2 => ⟨(r.inF a h1 h2).1.imp id .inl, ?_⟩, ?_, ?_, ?_, ?_, ?_⟩, ⟨?_, ?_⟩, ?_⟩
  · have hlA : a.block < w.heap.size := by
      obtain ⟨b, off, e, hbb, _⟩ := r.rF.at_ h1
      rw [h2] at e
      injection e with e
      subst e
      exact hbb
    rintro (e | e | e | e)
    · exact (r.inF a h1 h2).2 (.inl e)
    · exact (r.inF a h1 h2).2 (.inr (.inl e))
    · rcases hnew _ e with e | e
      · exact (r.inF a h1 h2).2 (.inr (.inr (.inl e)))
      · omega
    · exact (r.inF a h1 h2).2 (.inr (.inr (.inr e)))
  · rintro b (e | e | e | e)
    · exact .inl (r.inG b (.inl e))
    · exact .inl (r.inG b (.inr (.inl e)))
    · exact .inr e
    · exact .inl (r.inG b (.inr (.inr (.inr e))))
  · rintro b (e | e)
    · exact ⟨(r.gN b e).1, Nat.lt_of_lt_of_le (r.gN b e).2 hsz⟩
    · refine ⟨?_, hlt b e⟩
      rcases hnew b e with e | e
      · exact (r.gN b (hG b e)).1
      · have := (r.gN h (r.inG h (.inl rfl))); omega
  · intro b e
    refine ⟨(r.dS b e).1, fun e' => ?_, (r.dS b e).2.2⟩
    rcases hnew b e' with e' | e'
    · exact (r.dS b e).2.1 e'
    · have := (r.gN b (r.inG b (.inr (.inl e)))).2; omega
  · intro b e
    rcases hnew b e with e' | e'
    · exact r.dW b e'
    · refine ⟨fun q => ?_, fun q => ?_, fun q => ?_⟩
      · have := (r.gN h (r.inG h (.inl rfl))).2; omega
      · have := (r.gN b (r.inG b (.inr (.inl q)))).2; omega
      · have := (r.gN b (r.inG b (.inr (.inr (.inr q))))).2; omega
  · intro b e
    refine ⟨(r.dB b e).1, (r.dB b e).2.1, fun e' => ?_⟩
    rcases hnew b e' with e' | e'
    · exact (r.dB b e).2.2 e'
    · have := (r.gN b (r.inG b (.inr (.inr (.inr e))))).2; omega
  · have hN : N ≤ w.heap.size := by have := r.gN h (r.inG h (.inl rfl)); omega
    exact (hb.mono hN).grown hg (Nat.le_trans hN hb.size) fun b e => (r.gN b (hG b e)).1
  · exact fun b h1 h2 => hk b h1 fun e => h2 (hG b e)
  · rintro b (e | e)
    · exact .inl e
    · rcases hnew b e with e | e
      · exact .inl (hG b e)
      · exact .inr e
/-- One row more. -/
theorem Rest.pushB (r : Rest N w h sure zs rs fails G V) (hb : Below w.heap.size w wl) {v' u : Value} {xs : List UInt8} {A : Option Addr} {n c : Nat} (ho : w'.ownsRow N 23 1 v' (rs ++ [xs]).length (V.bs ++ [u])) (hg : wl.grownBy w' V.vB.ownBlock) (hv : v'.ownBlock = V.vB.ownBlock ∨ v'.ownBlock = some wl.heap.size) (hlt : ∀ b, v'.ownBlock = some b → b < w'.heap.size)
    (hu : u = .slice A n c) (hr : Rd wl A n c xs) (hA : ∀ a, 0 < n → A = some a → w.heap.size ≤ a.block) :
    Rest N w' h sure zs (rs ++ [xs]) fails (fun b => plus G v' b ∨ ∃ a, 0 < n ∧ A = some a ∧ a.block = b) { V with vB := v', bs := V.bs ++ [u] } ∧ Mv N G w w' ∧ (∀ b, (plus G v' b ∨ ∃ a, 0 < n ∧ A = some a ∧ a.block = b) → G b ∨ w.heap.size ≤ b) := by
  have hsz : w.heap.size ≤ w'.heap.size := Nat.le_trans hb.size hg.size
  have hk := grown_keep hb hg
  have hN : N ≤ w.heap.size := by have := r.gN h (r.inG h (.inl rfl)); omega
  have hG : ∀ b, V.vB.ownBlock = some b → G b := fun b e => r.inG b (.inr (.inr (.inr e)))
  have hnew : ∀ b, v'.ownBlock = some b → V.vB.ownBlock = some b ∨ b = wl.heap.size := fun b e => by
    rcases hv with hv | hv
    · exact .inl (hv ▸ e)
    · rw [hv] at e
      exact .inr (Option.some.inj e).symm
  have hbl : V.bs.length = rs.length := by have := r.oB.1; omega
  have hrow : ∀ u xs, Rr w G h V u xs → Rr w' (fun b => plus G v' b ∨ ∃ a, 0 < n ∧ A = some a ∧ a.block = b) h { V with vB := v', bs := V.bs ++ [.slice A n c] } u xs := by
    rintro u xs ⟨A, n, c, h1, h2, h3⟩
    refine ⟨A, n, c, h1, ⟨h2.len, h2.cap, h2.max, h2.nil, fun hn => ?_⟩, fun a hn ha => ?_⟩
    · obtain ⟨b, off, rfl, hlb, hc⟩ := h2.at_ hn
      obtain ⟨q1, q2⟩ := h3 _ hn rfl
      exact ⟨b, off, rfl, Nat.lt_of_lt_of_le hlb hsz, fun j hj => (World.cell?_of_block (a := ⟨b, off + j, none⟩) (hk b hlb fun e => q2 (.inr (.inr (.inr e))))).trans (hc j hj)⟩
    · obtain ⟨q1, q2⟩ := h3 a hn ha
      refine ⟨.inl (.inl q1), ?_⟩
      rintro (e | e | e | e)
      · exact q2 (.inl e)
      · exact q2 (.inr (.inl e))
      · exact q2 (.inr (.inr (.inl e)))
      · rcases hnew _ e with e | e
        · exact q2 (.inr (.inr (.inr e)))
        · have := (r.gN _ q1).2; have := hb.size; omega
  subst hu
  have hAl : ∀ a, 0 < n → A = some a → a.block < wl.heap.size := fun a h1 h2 => by
    obtain ⟨b, off, e, hbb, _⟩ := hr.at_ h1
    rw [h2] at e
    injection e with e
    subst e
    exact hbb
  have hAv : ∀ a, 0 < n → A = some a → v'.ownBlock ≠ some a.block := fun a h1 h2 e => by
    have q1 := hAl a h1 h2
    have q2 := hA a h1 h2
    rcases hnew _ e with e | e
    · have := (r.gN _ (hG _ e)).2; omega
    · omega
  refine ⟨⟨own_keepH r.oS fun b e hl => hk b hl (r.dS b e).2.2, fun i hi => hrow _ _ (r.rS i hi), own_keepH r.oW fun b e hl => hk b hl (r.dW b e).2.2, ho, fun i hi => ?_,
      r.rF.keep hsz fun a h1 h2 h3 => hk _ h3 fun e => (r.inF a h1 h2).2 (.inr (.inr (.inr e))), fun a h1 h2 => ⟨(r.inF a h1 h2).1.imp id fun q => .inl (.inl q), ?_⟩, ?_, ?_, ?_, ?_, ?_⟩, ⟨?_, ?_⟩, ?_⟩
  · by_cases hlt' : i < rs.length
    · have := hrow _ _ (r.rB i hlt')
      show Rr w' _ h _ (V.bs ++ [.slice A n c])[i]? ((rs ++ [xs]).getD i [])
      rw [List.getElem?_append_left (by omega), List.getD_eq_getElem?_getD, List.getElem?_append_left hlt', ← List.getD_eq_getElem?_getD]
      exact this
    · have hil : i = rs.length := by rw [List.length_append, List.length_singleton] at hi; omega
      subst hil
      show Rr w' _ h _ (V.bs ++ [.slice A n c])[rs.length]? ((rs ++ [xs]).getD rs.length [])
      rw [List.getElem?_append_right (by omega), hbl, Nat.sub_self, List.getD_eq_getElem?_getD, List.getElem?_append_right (Nat.le_refl _), Nat.sub_self]
      refine ⟨A, n, c, rfl, ⟨hr.len, hr.cap, hr.max, hr.nil, fun hn => ?_⟩, fun a h1 h2 => ⟨.inr ⟨a, h1, h2, rfl⟩, ?_⟩⟩
      · obtain ⟨b, off, e, hlb, hc⟩ := hr.at_ hn
        refine ⟨b, off, e, Nat.lt_of_lt_of_le hlb hg.size, fun j hj => (World.cell?_of_block (a := ⟨b, off + j, none⟩) (hg.block b hlb fun e' => ?_)).trans (hc j hj)⟩
        have q1 := hA _ hn e
        have q2 := (r.gN b (hG b e'.symm)).2
        have : (⟨b, off, none⟩ : Addr).block = b := rfl
        omega
      · have q1 := hA a h1 h2
        rintro (e | e | e | e)
        · have := (r.gN h (r.inG h (.inl rfl))).2; omega
        · have := (r.gN _ (r.inG _ (.inr (.inl e)))).2; omega
        · have := (r.gN _ (r.inG _ (.inr (.inr (.inl e))))).2; omega
        · exact hAv a h1 h2 e
  · have hlA : a.block < w.heap.size := by
      obtain ⟨b, off, e, hbb, _⟩ := r.rF.at_ h1
      rw [h2] at e
      injection e with e
      subst e
      exact hbb
    rintro (e | e | e | e)
    · exact (r.inF a h1 h2).2 (.inl e)
    · exact (r.inF a h1 h2).2 (.inr (.inl e))
    · exact (r.inF a h1 h2).2 (.inr (.inr (.inl e)))
    · rcases hnew _ e with e | e
      · exact (r.inF a h1 h2).2 (.inr (.inr (.inr e)))
      · have := hb.size; omega
  · rintro b (e | e | e | e)
    · exact .inl (.inl (r.inG b (.inl e)))
    · exact .inl (.inl (r.inG b (.inr (.inl e))))
    · exact .inl (.inl (r.inG b (.inr (.inr (.inl e)))))
    · exact .inl (.inr e)
  · rintro b ((e | e) | ⟨a, h1, h2, rfl⟩)
    · exact ⟨(r.gN b e).1, Nat.lt_of_lt_of_le (r.gN b e).2 hsz⟩
    · refine ⟨?_, hlt b e⟩
      rcases hnew b e with e | e
      · exact (r.gN b (hG b e)).1
      · have := hb.size; omega
    · exact ⟨Nat.le_trans hN (hA a h1 h2), Nat.lt_of_lt_of_le (hAl a h1 h2) hg.size⟩
  · intro b e
    refine ⟨(r.dS b e).1, (r.dS b e).2.1, fun e' => ?_⟩
    rcases hnew b e' with e' | e'
    · exact (r.dS b e).2.2 e'
    · have := (r.gN b (r.inG b (.inr (.inl e)))).2; have := hb.size; omega
  · intro b e
    refine ⟨(r.dW b e).1, (r.dW b e).2.1, fun e' => ?_⟩
    rcases hnew b e' with e' | e'
    · exact (r.dW b e).2.2 e'
    · have := (r.gN b (r.inG b (.inr (.inr (.inl e))))).2; have := hb.size; omega
  · intro b e
    rcases hnew b e with e' | e'
    · exact r.dB b e'
    · have := hb.size
      refine ⟨fun q => ?_, fun q => ?_, fun q => ?_⟩
      · have := (r.gN h (r.inG h (.inl rfl))).2; omega
      · have := (r.gN b (r.inG b (.inr (.inl q)))).2; omega
      · have := (r.gN b (r.inG b (.inr (.inr (.inl q))))).2; omega
  · exact (hb.mono hN).grown hg (Nat.le_trans hN hb.size) fun b e => (r.gN b (hG b e)).1
  · exact fun b h1 h2 => hk b h1 fun e => h2 (hG b e)
  · rintro b ((e | e) | ⟨a, h1, h2, rfl⟩)
    · exact .inl e
    · rcases hnew b e with e | e
      · exact .inl (hG b e)
      · have := hb.size; exact .inr (by omega)
    · exact .inr (hA a h1 h2)
end
/-- What a call on the document's own disk comes to. -/
def PostR (N : Nat) (G : Nat → Prop) (h : Nat) (L : Value) (w : World) (D' : Dk) (v : Value) (e : Ending) (w' : World) : Prop :=
  e = .returned v ∧ ∃ G', Rk N w' h L D' G' ∧ (∀ b, G' b → G b ∨ w.heap.size ≤ b) ∧ Mv N G w w'
end Go.Proofs.YtnoflgkjdibblaaGreatDoor.S19

/-
  The document's own disk: what is counted. No statement is proved here.
-/
namespace Go.Proofs.YtnoflgkjdibblaaGreatDoor.S19
set_option linter.unusedSimpArgs false
set_option linter.unusedVariables false
set_option maxRecDepth 4096
open Go.RowKit

theorem take_mem_succ (fs : List Int) (j : Nat) (k : Int) (hj : j < fs.length) (h1 : k ∉ fs.take j) (h2 : fs.getD j 0 ≠ k) : k ∉ fs.take (j + 1) := by
  have e : fs.take (j + 1) = fs.take j ++ [fs.getD j 0] := by
    rw [List.take_add_one, List.getElem?_eq_getElem hj]
    simp [List.getD, hj]
  rw [e, List.mem_append, List.mem_singleton]
  rintro (h | h)
  · exact h1 h
  · exact h2 h.symm
theorem Bk.mv {N : Nat} {G : Nat → Prop} {w w' : World} {h : Nat} {T : TypeId} {cs : Array Value} (hb : Bk w h T cs) (k : Below w.heap.size w w') : Bk w' h T cs := hb.below k hb.lt
set_option maxHeartbeats 4000000 in
theorem counted_any {L : Value} (N : Nat) (w : World) (h : Nat) (D : Dk) (G : Nat → Prop) (r : Rk N w h L D G) (hc : D.cnt < 1099511627776) : Calls Tryz.prog 92 #[.pointer (some ⟨h, 0, none⟩)] w (PostR N G h L w (if D.off = true then D else D.step) (.int .i64 (D.stepC : Int))) := by
  obtain ⟨V, hb, hr⟩ := r.ex
  have hok := r.ok
  have c6 : w.cell? ⟨h, 6, none⟩ = some (.int .i64 (D.cnt : Int)) := hb.cell 6
  have c7 : w.cell? ⟨h, 7, none⟩ = some (.bool D.off) := hb.cell 7
  have f6 := hb.frozen 6
  cases ho : D.off
  case true =>
    rw [ho] at c7
    have hs : D.stepC = 6 := by rw [Dk.stepC, if_pos ho]
    rw [if_pos rfl, hs]
    have RR := Lib.hid r
    clear hb hr hok r hc hs c6 f6
    go_enter Tryz.func92, Tryz.ntmps92
    go_wp2_with (fail)
    go_ret
    exact ⟨rfl, G, RR.out, fun b hb => .inl hb, Mv.refl _ _ _⟩
  case false =>
    rw [ho] at c7
    rw [if_neg (by simp)]
    obtain ⟨q, hq⟩ : ∃ q, q = D.cnt + 1 := ⟨_, rfl⟩
    have e1 : IntKind.i64.wrap ((D.cnt : Int) + 1) = (q : Int) := by rw [IntKind.wrap_i64]; omega
    have e2 : wrap64 ((D.cnt : Int) + 1) = (q : Int) := by unfold wrap64; omega
    have HGN := Lib.hid (show N ≤ h ∧ G h from ⟨(hr.gN h (hr.inG h (.inl rfl))).1, hr.inG h (.inl rfl)⟩)
    obtain ⟨w1, hw1⟩ : ∃ w1, w.setCell ⟨h, 6, none⟩ (.int .i64 (q : Int)) = w1 := ⟨_, rfl⟩
    have T1 := Lib.hid (show Bk w1 h 62 #[L, V.vS, V.vW, V.vB, .slice V.AF V.nF V.cF, .int .i64 D.stop, .int .i64 (q : Int), .bool false] by
      rw [← hw1]
      have := hb.put 6 (.int .i64 (q : Int))
      rw [ho] at this
      exact this)
    have R1 := Lib.hid (show Rest N w1 h D.sure (pendZ D.pend) (pendR D.pend) D.fails G V by rw [← hw1]; exact hr.poke 6 _)
    have M1 := Lib.hid (show Mv N G w w1 by rw [← hw1]; exact Mv.poke HGN.out.1 HGN.out.2 w 6 _)
    have HOK := Lib.hid (Dk.step_ok hok)
    have HQ := Lib.hid hq
    clear hb hr hok r hc hq
    by_cases hst : (D.cnt : Int) + 1 = D.stop
    · have hs : D.stepC = 6 := by rw [Dk.stepC, ho, if_neg (by simp), if_pos hst]
      have hD : D.step = { D with cnt := D.cnt + 1, off := true } := by rw [Dk.step, if_pos hst]
      rw [hs]
      have HOKS := HOK.out
      rw [hD] at HOKS ⊢
      have HK := Lib.hid HOKS
      obtain ⟨st, hst'⟩ : ∃ st, st = D.stop := ⟨_, rfl⟩
      have e3 : (q : Int) = st := by rw [hst', ← hst, HQ.out]; simp
      have e4 : ((q : Int) == st) = true := by rw [e3]; simp
      rw [← hst'] at T1
      have HST := Lib.hid hst'
      clear hs hD HOKS hst hst' HOK e3
      go_enter Tryz.func92, Tryz.ntmps92
      go_upto_region 4 with (fail)
      first
        | rw [hw1]
        | skip
      clear hw1 c6 c7 f6
      have KS := Lib.hid (show ∀ X, Below w1.heap.size w1 X → X.cell? ⟨h, 6, none⟩ = some (.int .i64 (q : Int)) ∧ X.cell? ⟨h, 5, none⟩ = some (.int .i64 st) from fun X hX => ⟨(T1.out.below hX T1.out.lt).cell 6, (T1.out.below hX T1.out.lt).cell 5⟩)
      have GD := Lib.hid (Below.refl w1.heap.size w1).drew
      (go_region_held3 (fun X => X.cell? ⟨h, 6, none⟩ = some (.int .i64 (q : Int)) ∧ X.cell? ⟨h, 5, none⟩ = some (.int .i64 st)) (exact KS.out _ GD.out) (fail))
      have T2 := Lib.hid (T1.out.below GD.out T1.out.lt)
      have c7 := T2.out.cell 7
      have f7 := T2.out.frozen 7
      simp only [List.getElem?_toArray, List.getElem?_cons_zero, List.getElem?_cons_succ] at c7
      go_wp2_with (fail)
      go_ret
      refine ⟨rfl, G, ⟨HK.out, V, ?_, (R1.out.keep GD.out.size fun b _ hlt => GD.out.block b hlt).poke 7 _⟩, fun b hb => .inl hb, M1.out.trans ((Mv.of (by have := M1.out.size; have := HGN.out.1; have := T1.out.lt; omega) GD.out).trans (Mv.poke HGN.out.1 HGN.out.2 _ 7 _) (fun b hb => .inl hb)) (fun b hb => .inl hb)⟩
      have := T2.out.put 7 (.bool true)
      rw [HST.out, HQ.out] at this
      exact this
    · have hD : D.step = { D with cnt := D.cnt + 1 } := by rw [Dk.step, if_neg hst]
      have hs : D.stepC = if ((D.cnt : Int) + 1) ∈ D.fails then 7 else 0 := by rw [Dk.stepC, ho, if_neg (by simp), if_neg hst]
      have hq1 : (D.cnt : Int) + 1 = (q : Int) := by have := HQ.out; omega
      rw [hq1] at hs hst
      have HOKS := HOK.out
      rw [hD] at HOKS ⊢
      rw [hs]
      have HK := Lib.hid HOKS
      obtain ⟨st, hst'⟩ : ∃ st, st = D.stop := ⟨_, rfl⟩
      rw [← hst'] at hst T1
      have e4 : ((q : Int) == st) = false := by simpa using hst
      have HST := Lib.hid hst'
      clear hs hD HOKS hst' HOK hq1
      have END := Lib.hid (show ∀ X, Below w1.heap.size w1 X → ∀ v, PostR N G h L w { D with cnt := D.cnt + 1 } v (.returned v) X from fun X hX v => by
        have T2 := T1.out.below hX T1.out.lt
        rw [HST.out, HQ.out, ← ho] at T2
        refine ⟨rfl, G, ⟨HK.out, V, T2, R1.out.keep hX.size fun b _ hlt => hX.block b hlt⟩, fun b hb => .inl hb, M1.out.trans (Mv.of (by have := M1.out.size; have := HGN.out.1; have := T1.out.lt; omega) hX) (fun b hb => .inl hb)⟩)
      obtain ⟨fs, hfs⟩ : ∃ fs, fs = D.fails := ⟨_, rfl⟩
      rw [← hfs] at R1
      obtain ⟨cd, hcd⟩ : ∃ cd : Nat, cd = if (q : Int) ∈ D.fails then 7 else 0 := ⟨_, rfl⟩
      rw [← hcd]
      rw [← hfs] at hcd
      have HCD := Lib.hid hcd
      obtain ⟨D', hD'⟩ : ∃ D' : Dk, D' = { D with cnt := D.cnt + 1 } := ⟨_, rfl⟩
      rw [← hD'] at END ⊢
      clear hcd hD'
      have KS := Lib.hid (show ∀ X, Below w1.heap.size w1 X → X.cell? ⟨h, 6, none⟩ = some (.int .i64 (q : Int)) ∧ X.cell? ⟨h, 5, none⟩ = some (.int .i64 st) ∧ X.cell? ⟨h, 4, none⟩ = some (.slice V.AF V.nF V.cF) from fun X hX => ⟨(T1.out.below hX T1.out.lt).cell 6, (T1.out.below hX T1.out.lt).cell 5, (T1.out.below hX T1.out.lt).cell 4⟩)
      have RF := Lib.hid (show ∀ X, Below w1.heap.size w1 X → RI X .i64 V.AF V.nF V.cF fs from fun X hX => R1.out.rF.below hX)
      go_enter Tryz.func92, Tryz.ntmps92
      go_upto_region 4 with (fail)
      first
        | rw [hw1]
        | skip
      clear hw1 c6 c7 f6 hfs
      have GD := Lib.hid (Below.refl w1.heap.size w1).drew
      (go_region_held3 (fun X => X.cell? ⟨h, 6, none⟩ = some (.int .i64 (q : Int)) ∧ X.cell? ⟨h, 5, none⟩ = some (.int .i64 st) ∧ X.cell? ⟨h, 4, none⟩ = some (.slice V.AF V.nF V.cF)) (exact KS.out _ GD.out) (fail))
      go_wp2_with (fail)
      obtain ⟨nF, hnF⟩ : ∃ nF, V.nF = nF := ⟨_, rfl⟩
      rw [hnF] at KS RF
      have HNF := Lib.hid (show fs.length = nF from (RF.out _ (Below.refl _ _)).len)
      have hmx : nF ≤ 9223372036854775807 := by have h1 := (RF.out _ (Below.refl _ _)).cap; have h2 := (RF.out _ (Below.refl _ _)).max; unfold maxLen at h2; omega
      go_loopw [3] (fun iv wi => ∃ (i : Nat), i ≤ nF ∧ iv = .int .i64 (i : Int) ∧ (q : Int) ∉ fs.take i ∧ Below w1.heap.size w1 wi)
        (fun iv _ => nF - (intOf iv).toNat)
      case atStart => exact ⟨0, Nat.zero_le _, rfl, by simp, GD.out⟩
      case round =>
        clear GD
        obtain ⟨i, hi, rfl, hni, hB⟩ := hrel
        have BR := Lib.hid hB
        have HNI := Lib.hid hni
        obtain ⟨k6, k5, k4⟩ := KS.out _ hB
        clear hB hni
        by_cases hlt : i < nF
        · have t0 : (i : Int) < (nF : Int) := by omega
          obtain ⟨b, off, hA, hb, hcell⟩ := (RF.out _ BR.out).cell hlt
          rw [hA] at k4
          obtain ⟨z, hz⟩ : ∃ z, z = fs.getD i 0 := ⟨_, rfl⟩
          rw [← hz] at hcell
          have HZ := Lib.hid hz
          have KZ := Lib.hid (show ∀ X, Below wr.heap.size wr X → X.cell? ⟨h, 6, none⟩ = some (.int .i64 (q : Int)) ∧ X.cell? ⟨h, 4, none⟩ = some (.slice (some ⟨b, off, none⟩) nF V.cF) ∧ X.cell? ⟨b, off + i, none⟩ = some (.int .i64 z) from fun X hX => by
            have q1 := KS.out X (BR.out.trans (hX.mono BR.out.size))
            exact ⟨q1.1, by rw [q1.2.2, hA], (hX.cell (p := ⟨b, off + i, none⟩) hb).trans hcell⟩)
          have GD := Lib.hid (Below.refl wr.heap.size wr).drew
          clear hA hcell hz hb
          by_cases hzq : z = (q : Int)
          · have y1 : (z == (q : Int)) = true := by simp [hzq]
            have HIN := Lib.hid (show (q : Int) ∈ fs by
              rw [← hzq, HZ.out]
              rw [List.getD_eq_getElem?_getD, List.getElem?_eq_getElem (by rw [HNF.out]; exact hlt)]
              exact List.getElem_mem _)
            clear hzq
            go_upto_region 10 with (fail)
            (go_region_held3 (fun X => X.cell? ⟨h, 6, none⟩ = some (.int .i64 (q : Int)) ∧ X.cell? ⟨h, 4, none⟩ = some (.slice (some ⟨b, off, none⟩) nF V.cF) ∧ X.cell? ⟨b, off + i, none⟩ = some (.int .i64 z)) (exact KZ.out _ GD.out) (fail))
            go_wp2_with (fail)
            go_ret
            have e7 : cd = 7 := by rw [HCD.out, if_pos HIN.out]
            rw [e7]
            exact END.out _ (BR.out.trans (GD.out.mono BR.out.size)) _
          · have y1 : (z == (q : Int)) = false := by simp [hzq]
            have HN2 := Lib.hid (take_mem_succ fs i (q : Int) (by rw [HNF.out]; exact hlt) HNI.out (by rw [← HZ.out]; exact hzq))
            clear hzq
            go_upto_region 10 with (fail)
            (go_region_held3 (fun X => X.cell? ⟨h, 6, none⟩ = some (.int .i64 (q : Int)) ∧ X.cell? ⟨h, 4, none⟩ = some (.slice (some ⟨b, off, none⟩) nF V.cF) ∧ X.cell? ⟨b, off + i, none⟩ = some (.int .i64 z)) (exact KZ.out _ GD.out) (fail))
            go_wp2_with (fail)
            go_roundw
            case rel => exact ⟨i + 1, by omega, by go_num, HN2.out, BR.out.trans (GD.out.mono BR.out.size)⟩
            case measure => simp [intOf]; omega
        · have t0 : ¬ (i : Int) < (nF : Int) := by omega
          obtain rfl : i = nF := by omega
          have HIN := Lib.hid (show ¬ (q : Int) ∈ fs by
            have := HNI.out
            rwa [List.take_of_length_le (by rw [HNF.out]; exact Nat.le_refl _)] at this)
          go_wp2_with (fail)
          go_ret
          have e7 : cd = 0 := by rw [HCD.out, if_neg HIN.out]
          rw [e7]
          exact END.out _ BR.out _
end Go.Proofs.YtnoflgkjdibblaaGreatDoor.S19
