/-
  Rows of whole numbers, and append to such a row at a step. No statement is proved here.
-/
import Derived.Test.YtammgingmkdfhaaDk4
import Derived.Test.YtammgingmkdfhaaTool
namespace Go.Proofs.Ytammgingmkdfhaa.S19
set_option linter.unusedSimpArgs false
set_option linter.unusedVariables false
set_option maxRecDepth 4096
open Go.RowKit

theorem Try.infoZ : (Try.prog.info? 3).map (fun i => (i.zero, i.size, i.bytes)) = some (some (.int .i64 0), 1, 8) := by kernel_rfl
def zv (xs : List Int) : List Value := xs.map fun b => Value.int .i64 b
theorem zv_length (xs : List Int) : (zv xs).length = xs.length := by simp [zv]
theorem zv_append (xs ys : List Int) : zv (xs ++ ys) = zv xs ++ zv ys := by simp [zv]
theorem zv_at (xs : List Int) (i : Nat) (h : i < xs.length) : (zv xs)[i]? = some (.int .i64 xs[i]) := by simp [zv, h]
theorem zv_one (xs : List Int) : ∀ u ∈ zv xs, u.oneCell' = true := by
  intro u hu
  simp only [zv, List.mem_map] at hu
  obtain ⟨b, _, rfl⟩ := hu
  rfl
theorem RI.own {w : World} {B e n : Nat} {A : Option Addr} {c : Nat} {xs : List Int} (h : w.ownsRow B e 1 (.slice A n c) n (zv xs)) : RI w .i64 A n c xs := by
  have hl : xs.length = n := by have := h.1; simp [zv_length] at this; exact this
  rcases h.2 with ⟨hv, hn⟩ | ⟨g, cap, cur, hv, _, hh, hnc, hcm, _, htake⟩
  · injection hv with h1 h2 h3
    subst h1 h2 h3
    have : xs = [] := List.eq_nil_of_length_eq_zero hl
    subst this
    exact RI.nil_ w _
  · injection hv with h1 h2 h3
    subst h1 h3
    refine ⟨hl, hnc, hcm, (fun h => by cases h), fun hn => ⟨g, 0, rfl, (Array.getElem?_eq_some_iff.1 hh).1, fun j hj => ?_⟩⟩
    have := h.cellAt j (by omega)
    rw [Nat.zero_add, this, zv_at xs j (by omega)]
    simp [List.getD, hl ▸ hj]
theorem news_zi {w : World} {ad : Addr} {m c : Nat} {ys : List Int} (hr : RI w .i64 (some ad) m c ys) : ∀ j u, (zv ys)[j]? = some u → w.cell? (ad.add j) = some u := by
  intro j u hj
  have hl := hr.len
  have hjl : j < ys.length := by
    rcases Nat.lt_or_ge j ys.length with h | h
    · exact h
    · rw [List.getElem?_eq_none (by simpa [zv_length] using h)] at hj; cases hj
  obtain ⟨b, off, e, _, hc⟩ := hr.at_ (by omega)
  injection e with e
  subst e
  have hp : (⟨b, off, none⟩ : Addr).add j = ⟨b, off + j, none⟩ := by unfold Addr.add; split <;> simp_all
  rw [zv_at ys j hjl] at hj
  rw [hp, hc j (by omega), ← hj]
  simp [List.getD, hjl]
/-- append to a row of whole numbers, at a step. -/
theorem step_append_zi {w : World} {ops : Array Oper} {o : Oper} {a : Act} {K : Act → World → Prop} {Q : Exit → Act → World → Prop} {E : Prop} (hw : Region.wanted o (yielded ops a.tmps) = true) (s x : Operand)
    (ho : o.op = .call { callee := .builtin .append, args := #[s, x], argTypes := #[31, 31] })
    (base : Nat) (v : Value) (n : Nat) (xs : List Int) (hs : a.eval s = v) (hown : w.ownsRow base 3 1 v n (zv xs))
    (ad : Addr) (m c : Nat) (ys : List Int) (hx : a.eval x = .slice (some ad) m c) (hr : RI w .i64 (some ad) m c ys) (hb : n + m ≤ 2000000000000) (hbase : base ≤ w.heap.size)
    (h : ∀ v' w', w'.ownsRow base 3 1 v' (n + m) (zv (xs ++ ys)) → w.grownBy w' v.ownBlock → (v'.ownBlock = v.ownBlock ∨ v'.ownBlock = some w.heap.size) → K (a.put o.dst v') w') :
    if Region.wanted o (yielded ops a.tmps) = true then Oper.wp Try.prog o a w K Q else E := by
  obtain ⟨i0, hi, hz0, hz1, hz2⟩ := info_parts Try.infoZ
  rw [if_pos hw]
  obtain ⟨v', w', hrun, h2, h3, _, h5⟩ := run_append_own_at (P := Try.prog) w base 31 o.type 3 i0 (.int .i64 0) 1 8 Try.underlying31 hi hz0 hz1 hz2 rfl (by omega) v n (zv xs) hown ad m c (zv ys)
      (by simp [zv_length, hr.len]) (news_zi hr) (zv_one _) (by simp only [maxLen]; omega) (by omega) hbase
  unfold Oper.wp
  simp [execOp, ho, resolve, invoke, builtin, hs, hx, hrun, Result.andThen]
  exact h v' w' (by rw [zv_append]; exact h2) h3 h5
theorem ri_lit (w : World) (z : Int) (b : Nat) (hb : w.heap.size = b) : RI (w.alloc (.cells #[.int .i64 z] 3)) .i64 (some ⟨b, 0, none⟩) 1 1 [z] := by
  subst hb
  have := World.ownsRow_lit (base := 0) (e := 3) (size := 1) w (zv [z]).toArray 1 (Nat.zero_le _) (by simp [maxLen]) (by simp [zv])
  rw [show (zv [z]).toArray = #[Value.int .i64 z] from rfl] at this
  exact RI.own (B := 0) (e := 3) (by simpa [zv] using this)
theorem RI.cell {w : World} {k : IntKind} {A : Option Addr} {n c : Nat} {xs : List Int} (h : RI w k A n c xs) {i : Nat} (hi : i < n) : ∃ b off, A = some ⟨b, off, none⟩ ∧ b < w.heap.size ∧ w.cell? ⟨b, off + i, none⟩ = some (.int k (xs.getD i 0)) := by
  obtain ⟨b, off, rfl, hb, hc⟩ := h.at_ (by omega)
  exact ⟨b, off, rfl, hb, hc i hi⟩
end Go.Proofs.Ytammgingmkdfhaa.S19
