/-
  A region that draws its order: two loads that may come in either order. No statement is proved here.
-/
import Derived.Test.YtammgingmkdfhaaCel
import Derived.Deep.RegionLaw
import Derived.StillTailTactics
namespace Go.Proofs.Ytammgingmkdfhaa
set_option linter.unusedSimpArgs false
set_option linter.unusedVariables false
set_option maxRecDepth 1024
open Go.RowKit

theorem exec_load {P : Program} {w : World} {a : Act} {o : Oper} {ty : TypeId} {x : Operand} {p v : Value} (ho : o.op = .load ty x) (hx : a.eval x = p) (hl : (Instr.loadAt ty p).run P w = .ok v w) :
    (execOp a.eval o).run P w = .ok (.value v) w := by
  unfold execOp
  simp only [ho, hx, Sem.run_bind, hl, Result.andThen, Sem.run_pure]
theorem wpAny_pair {P : Program} {md : Region.Mode} {ops : Array Oper} {Q : Exit → Act → World → Prop} {fuel : Nat} {listed : Array Bool} {a : Act} {w : World} (i j : Nat) {oi oj : Oper} (vi vj : Value)
    (hi : ops[i]? = some oi) (hj : ops[j]? = some oj) (hij : i ≠ j) (hr : Region.ready md ops listed = [i, j]) (hr1 : Region.ready md ops (listed.setIfInBounds i true) = [j]) (hr2 : Region.ready md ops (listed.setIfInBounds j true) = [i])
    (gi : oi.guard = none) (gj : oj.guard = none)
    (xi : (execOp a.eval oi).run P w = .ok (.value vi) w) (xi' : (execOp (a.put oj.dst vj).eval oi).run P w = .ok (.value vi) w)
    (xj : (execOp a.eval oj).run P w = .ok (.value vj) w) (xj' : (execOp (a.put oi.dst vi).eval oj).run P w = .ok (.value vj) w)
    (hc : (a.put oj.dst vj).put oi.dst vi = (a.put oi.dst vi).put oj.dst vj)
    (h : wpAny P md ops Q fuel ((listed.setIfInBounds i true).setIfInBounds j true) ((a.put oi.dst vi).put oj.dst vj) w) : wpAny P md ops Q (fuel + 2) listed a w := by
  have one : ∀ (o : Oper) (a' : Act) (v : Value) (K : Act → World → Prop), o.guard = none → (execOp a'.eval o).run P w = .ok (.value v) w → K (a'.put o.dst v) w →
      (if Region.wanted o (yielded ops a'.tmps) = true then Oper.wp P o a' w K Q else K (a'.put o.dst undef) w) := fun o a' v K hg hx hK => by
    rw [if_pos (by simp [Region.wanted, hg])]
    unfold Oper.wp
    rw [hx, Oper.upon_value]
    exact hK
  refine wpAny_ready (rs := [i, j]) hr (by simp) (AllReady.cons hi (fun K hK => one oi a vi K gi xi (hK _ _ ?_)) (AllReady.cons hj (fun K hK => one oj a vj K gj xj (hK _ _ ?_)) AllReady.nil))
  · exact wpAny_ready (rs := [j]) hr1 (by simp) (AllReady.cons hj (fun K hK => one oj _ vj K gj xj' (hK _ _ h)) AllReady.nil)
  · refine wpAny_ready (rs := [i]) hr2 (by simp) (AllReady.cons hi (fun K hK => one oi _ vi K gi xi' (hK _ _ ?_)) AllReady.nil)
    rw [hc, Array.setIfInBounds_comm _ _ (Ne.symm hij)]
    exact h
theorem put_far (a : Act) (s x : Tmp) (v : Value) (h : x ≠ s) : (a.put (some s) v).eval (.tmp x) = a.eval (.tmp x) := by
  simp [Act.put, Act.eval, Array.getElem?_setIfInBounds, Ne.symm h]
theorem put_put (a : Act) (s t : Tmp) (v u : Value) (h : s ≠ t) : (a.put (some s) v).put (some t) u = (a.put (some t) u).put (some s) v := by
  simp only [Act.put]
  rw [Array.setIfInBounds_comm _ _ h]
/-- Two loads, in either order. -/
theorem wpAny_loads {P : Program} {md : Region.Mode} {ops : Array Oper} {Q : Exit → Act → World → Prop} {fuel : Nat} {listed : Array Bool} {a : Act} {w : World} (i j : Nat) {oi oj : Oper} (si sj xi xj : Tmp) (ti tj : TypeId) (pi pj vi vj : Value)
    (hi : ops[i]? = some oi) (hj : ops[j]? = some oj) (hij : i ≠ j) (hr : Region.ready md ops listed = [i, j]) (hr1 : Region.ready md ops (listed.setIfInBounds i true) = [j]) (hr2 : Region.ready md ops (listed.setIfInBounds j true) = [i])
    (gi : oi.guard = none) (gj : oj.guard = none) (di : oi.dst = some si) (dj : oj.dst = some sj) (opi : oi.op = .load ti (.tmp xi)) (opj : oj.op = .load tj (.tmp xj))
    (hs : si ≠ sj) (nij : xi ≠ sj) (nji : xj ≠ si) (ei : a.eval (.tmp xi) = pi) (ej : a.eval (.tmp xj) = pj)
    (li : (Instr.loadAt ti pi).run P w = .ok vi w) (lj : (Instr.loadAt tj pj).run P w = .ok vj w)
    (h : wpAny P md ops Q fuel ((listed.setIfInBounds i true).setIfInBounds j true) ((a.put (some si) vi).put (some sj) vj) w) : wpAny P md ops Q (fuel + 2) listed a w := by
  refine wpAny_pair i j vi vj hi hj hij hr hr1 hr2 gi gj (exec_load opi ei li) (exec_load opi (by rw [dj, put_far _ _ _ _ nij, ei]) li) (exec_load opj ej lj) (exec_load opj (by rw [di, put_far _ _ _ _ nji, ej]) lj) ?_ ?_
  · rw [di, dj, put_put _ _ _ _ _ (Ne.symm hs)]
  · rw [di, dj]; exact h
theorem wpAny_seq {P : Program} {md : Region.Mode} {l : List Oper} {Q : Exit → Act → World → Prop} {g : Nat} {listed : Array Bool} {a : Act} {w : World} (n : Nat) (hl : (l.drop n).length = g) (hB : Region.seqB md l.toArray g n listed = true)
    (h : wpList P l.toArray Q (l.drop n) a w) : wpAny P md l.toArray Q g listed a w := by
  subst hl
  exact wpAny_of_seq (l.drop n) n listed a w (fun j => by simp [List.getElem?_drop]) hB h
theorem wpList_build_to {P : Program} {w : World} {ops : Array Oper} {rest : List Oper} {o : Oper} {a : Act} {Q : Exit → Act → World → Prop} (hg : o.guard = none) (t : TypeId) (parts : Array (Nat × Operand)) (ho : o.op = .build t parts)
    (cs : Array Value) (hf : P.built t (parts.map fun (i, x) => (i, a.eval x)).toList = some cs)
    (h : wpList P ops Q rest (a.put o.dst (.agg cs)) w) : wpList P ops Q (o :: rest) a w :=
  wpList_build hg t parts ho (by rw [hf]; rfl) (by rw [hf]; exact h)
theorem Try.infoU32 : (Try.prog.info? 94).map (·.size) = some 1 := by kernel_rfl
theorem run_index_agg {P : Program} {T e : TypeId} {n : Nat} (hT : P.underlying T = some (.array n e)) (he : (P.info? e).map (·.size) = some 1) {ke : IntKind} (hu : P.underlying e = some (.int ke)) (cs : Array Value) (k : IntKind) (i : Int) (h0 : 0 ≤ i) (h1 : i < n) (v : Value) (hi : cs[i.toNat]? = some v)
    (h1v : v.oneCell' = true) (W : World) : (Instr.index T (.agg cs) (.int k i)).run P W = .ok v W := by
  cases hq : P.info? e with
  | none => simp [hq] at he
  | some i0 =>
    have hs : i0.size = 1 := by simpa [hq] using he
    simp [Instr.index, asIntOf, run_underlying hT, run_underlying hu, h0, h1, part, isAgg, sizeOf, typeInfo, hq, hs, hi]
end Go.Proofs.Ytammgingmkdfhaa
