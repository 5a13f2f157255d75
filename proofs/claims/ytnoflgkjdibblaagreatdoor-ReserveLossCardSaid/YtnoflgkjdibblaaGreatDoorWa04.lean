/-
  Texts put together: Pair, Hash, Hash2. No statement is proved here.
-/
import Derived.Test.YtnoflgkjdibblaaGreatDoorWa01
import Derived.Deep.RegionLaw
import Derived.StillTailTactics
import Derived.Test.YtnoflgkjdibblaaGreatDoorWa03

/-
  A region that draws its order: two loads that may come in either order. No statement is proved here.
-/
namespace Go.Proofs.YtnoflgkjdibblaaGreatDoor
set_option linter.unusedSimpArgs false
set_option linter.unusedVariables false
set_option maxRecDepth 1024
open Go.RowKit

theorem exec_load {P : Program} {w : World} {a : Act} {o : Oper} {ty : TypeId} {x : Operand} {p v : Value} (ho : o.op = .load ty x) (hx : a.eval x = p) (hl : (Instr.loadAt ty p).run P w = .ok v w) :
    (execOp a.eval o).run P w = .ok (.value v) w := by
  unfold execOp
  simp only [ho, hx, Sem.run_bind, hl, Result.andThen, Sem.run_pure]
theorem wpAny_pair {P : Program} {md : Region.Mode} {ops : Array Oper} {Q : Exit → Act → World → Prop} {fuel : Nat} {listed : Array Bool} {a : Act} {w : World} (i j : Nat) {oi oj : Oper} (vi vj : Value)
    (hi : ops[i]? = some oi) (hj : ops[j]? = some oj) (hij : i ≠ j) (hr : Region.ready md ops listed = [i, j]) (hr1 : Region.ready md ops (listed.setIfInBounds i true) = [j]) (hr2 : Region.ready md ops (listed.setIfInBounds j true) = [i])
    (gi : oi.guard = none) (gj : oj.guard = none)
    (xi : (execOp a.eval oi).run P w = .ok (.value vi) w) (xi' : (execOp (a.put oj.dst vj).eval oi).run P w = .ok (.value vi) w)
    (xj : (execOp a.eval oj).run P w = .ok (.value vj) w) (xj' : (execOp (a.put oi.dst vi).eval oj).run P w = .ok (.value vj) w)
    (hc : (a.put oj.dst vj).put oi.dst vi = (a.put oi.dst vi).put oj.dst vj)
    (h : wpAny P md ops Q fuel ((listed.setIfInBounds i true).setIfInBounds j true) ((a.put oi.dst vi).put oj.dst vj) w) : wpAny P md ops Q (fuel + 2) listed a w := by
  have one : ∀ (o : Oper) (a' : Act) (v : Value) (K : Act → World → Prop), o.guard = none → (execOp a'.eval o).run P w = .ok (.value v) w → K (a'.put o.dst v) w →
      (if Region.wanted o (yielded ops a'.tmps) = true then Oper.wp P o a' w K Q else K (a'.put o.dst undef) w) := fun o a' v K hg hx hK => by
    rw [if_pos (by simp [Region.wanted, hg])]
    unfold Oper.wp
    rw [hx, Oper.upon_value]
    exact hK
  refine wpAny_ready (rs := [i, j]) hr (by simp) (AllReady.cons hi (fun K hK => one oi a vi K gi xi (hK _ _ ?_)) (AllReady.cons hj (fun K hK => one oj a vj K gj xj (hK _ _ ?_)) AllReady.nil))
  · exact wpAny_ready (rs := [j]) hr1 (by simp) (AllReady.cons hj (fun K hK => one oj _ vj K gj xj' (hK _ _ h)) AllReady.nil)
  · refine wpAny_ready (rs := [i]) hr2 (by simp) (AllReady.cons hi (fun K hK => one oi _ vi K gi xi' (hK _ _ ?_)) AllReady.nil)
    rw [hc, Array.setIfInBounds_comm _ _ (Ne.symm hij)]
    exact h
theorem put_far (a : Act) (s x : Tmp) (v : Value) (h : x ≠ s) : (a.put (some s) v).eval (.tmp x) = a.eval (.tmp x) := by
  simp [Act.put, Act.eval, Array.getElem?_setIfInBounds, Ne.symm h]
theorem put_put (a : Act) (s t : Tmp) (v u : Value) (h : s ≠ t) : (a.put (some s) v).put (some t) u = (a.put (some t) u).put (some s) v := by
  simp only [Act.put]
  rw [Array.setIfInBounds_comm _ _ h]
/-- Two loads, in either order. -/
theorem wpAny_loads {P : Program} {md : Region.Mode} {ops : Array Oper} {Q : Exit → Act → World → Prop} {fuel : Nat} {listed : Array Bool} {a : Act} {w : World} (i j : Nat) {oi oj : Oper} (si sj xi xj : Tmp) (ti tj : TypeId) (pi pj vi vj : Value)
    (hi : ops[i]? = some oi) (hj : ops[j]? = some oj) (hij : i ≠ j) (hr : Region.ready md ops listed = [i, j]) (hr1 : Region.ready md ops (listed.setIfInBounds i true) = [j]) (hr2 : Region.ready md ops (listed.setIfInBounds j true) = [i])
    (gi : oi.guard = none) (gj : oj.guard = none) (di : oi.dst = some si) (dj : oj.dst = some sj) (opi : oi.op = .load ti (.tmp xi)) (opj : oj.op = .load tj (.tmp xj))
    (hs : si ≠ sj) (nij : xi ≠ sj) (nji : xj ≠ si) (ei : a.eval (.tmp xi) = pi) (ej : a.eval (.tmp xj) = pj)
    (li : (Instr.loadAt ti pi).run P w = .ok vi w) (lj : (Instr.loadAt tj pj).run P w = .ok vj w)
    (h : wpAny P md ops Q fuel ((listed.setIfInBounds i true).setIfInBounds j true) ((a.put (some si) vi).put (some sj) vj) w) : wpAny P md ops Q (fuel + 2) listed a w := by
  refine wpAny_pair i j vi vj hi hj hij hr hr1 hr2 gi gj (exec_load opi ei li) (exec_load opi (by rw [dj, put_far _ _ _ _ nij, ei]) li) (exec_load opj ej lj) (exec_load opj (by rw [di, put_far _ _ _ _ nji, ej]) lj) ?_ ?_
  · rw [di, dj, put_put _ _ _ _ _ (Ne.symm hs)]
  · rw [di, dj]; exact h
theorem wpAny_seq {P : Program} {md : Region.Mode} {l : List Oper} {Q : Exit → Act → World → Prop} {g : Nat} {listed : Array Bool} {a : Act} {w : World} (n : Nat) (hl : (l.drop n).length = g) (hB : Region.seqB md l.toArray g n listed = true)
    (h : wpList P l.toArray Q (l.drop n) a w) : wpAny P md l.toArray Q g listed a w := by
  subst hl
  exact wpAny_of_seq (l.drop n) n listed a w (fun j => by simp [List.getElem?_drop]) hB h
theorem wpList_build_to {P : Program} {w : World} {ops : Array Oper} {rest : List Oper} {o : Oper} {a : Act} {Q : Exit → Act → World → Prop} (hg : o.guard = none) (t : TypeId) (parts : Array (Nat × Operand)) (ho : o.op = .build t parts)
    (cs : Array Value) (hf : P.built t (parts.map fun (i, x) => (i, a.eval x)).toList = some cs)
    (h : wpList P ops Q rest (a.put o.dst (.agg cs)) w) : wpList P ops Q (o :: rest) a w :=
  wpList_build hg t parts ho (by rw [hf]; rfl) (by rw [hf]; exact h)
theorem Tryz.infoU32 : (Tryz.prog.info? 158).map (·.size) = some 1 := by kernel_rfl
theorem run_index_agg {P : Program} {T e : TypeId} {n : Nat} (hT : P.underlying T = some (.array n e)) (he : (P.info? e).map (·.size) = some 1) {ke : IntKind} (hu : P.underlying e = some (.int ke)) (cs : Array Value) (k : IntKind) (i : Int) (h0 : 0 ≤ i) (h1 : i < n) (v : Value) (hi : cs[i.toNat]? = some v)
    (h1v : v.oneCell' = true) (W : World) : (Instr.index T (.agg cs) (.int k i)).run P W = .ok v W := by
  cases hq : P.info? e with
  | none => simp [hq] at he
  | some i0 =>
    have hs : i0.size = 1 := by simpa [hq] using he
    simp [Instr.index, asIntOf, run_underlying hT, run_underlying hu, h0, h1, part, isAgg, sizeOf, typeInfo, hq, hs, hi]
end Go.Proofs.YtnoflgkjdibblaaGreatDoor

/-
  A text that is summed: what New and Write do.
-/
namespace Go.Proofs.YtnoflgkjdibblaaGreatDoor.S2
set_option linter.unusedSimpArgs false
set_option linter.unusedVariables false
set_option maxRecDepth 1024
open Go.RowKit

def sL (s : St) : List Value := [.int .u32 (s.a.toNat : Int), .int .u32 (s.b.toNat : Int), .int .u32 (s.c.toNat : Int), .int .u32 (s.d.toNat : Int), .int .u32 (s.e.toNat : Int), .int .u32 (s.f.toNat : Int), .int .u32 (s.g.toNat : Int), .int .u32 (s.h.toNat : Int)]
theorem sL_length (s : St) : (sL s).length = 8 := rfl
theorem sL_arr (s : St) : (sL s).toArray = sA s := rfl
theorem turns_left (s : St) (xs ys : List UInt8) (k : Nat) (h : 64 * k ≤ xs.length) : turns s (xs ++ ys) k = turns s xs k := by
  induction k with
  | zero => rfl
  | succ k ih =>
    rw [turns, turns, ih (by omega), List.drop_append_of_le_length (by omega), List.take_append_of_le_length (by simp; omega)]

/-- The cells of a text that is summed. -/
def hC (s : St) (rest : List UInt8) (n : Nat) : List Value := sL s ++ bv rest ++ [.int .u64 (n : Int)]
/-- Block g is the text xs, as it is summed. -/
def HashIs (w : World) (g : Nat) (xs : List UInt8) : Prop :=
  ∃ rest : List UInt8, rest.length = 64 ∧ rest.take (xs.length % 64) = xs.drop (64 * (xs.length / 64)) ∧ Bk w g 179 (hC (turns hH xs (xs.length / 64)) rest xs.length).toArray
theorem HashIs.below {w w' : World} {g B : Nat} {xs : List UInt8} (h : HashIs w g xs) (hb : Below B w w') (hg : g < B) : HashIs w' g xs := by
  obtain ⟨r, h1, h2, h3⟩ := h
  exact ⟨r, h1, h2, h3.below hb hg⟩
theorem HashIs.lt {w : World} {g : Nat} {xs : List UInt8} (h : HashIs w g xs) : g < w.heap.size := by
  obtain ⟨r, h1, h2, h3⟩ := h
  exact h3.lt

/-- n bytes more, and the block isn't full. -/
theorem more_part (xs ys rest : List UInt8) (n : Nat) (hn : n = ys.length) (h : xs.length % 64 + n < 64) (hr : rest.take (xs.length % 64) = xs.drop (64 * (xs.length / 64))) (hl : rest.length = 64) :
    (rest.take (xs.length % 64) ++ ys ++ rest.drop (xs.length % 64 + n)).length = 64 ∧
    (rest.take (xs.length % 64) ++ ys ++ rest.drop (xs.length % 64 + n)).take ((xs ++ ys).length % 64) = (xs ++ ys).drop (64 * ((xs ++ ys).length / 64)) ∧
    turns hH (xs ++ ys) ((xs ++ ys).length / 64) = turns hH xs (xs.length / 64) := by
  subst hn
  have e1 : (xs ++ ys).length / 64 = xs.length / 64 := by rw [List.length_append]; omega
  have e2 : (xs ++ ys).length % 64 = xs.length % 64 + ys.length := by rw [List.length_append]; omega
  refine ⟨by simp; omega, ?_, by rw [e1]; exact turns_left _ _ _ _ (by omega)⟩
  rw [e1, e2, List.take_append_of_le_length (by simp; omega), List.drop_append_of_le_length (by omega), hr]
  rw [List.take_of_length_le (by simp; omega)]
/-- n bytes more, and the block is full. -/
theorem more_full (xs ys rest : List UInt8) (n : Nat) (hn : n = ys.length) (h : xs.length % 64 + n = 64) (hr : rest.take (xs.length % 64) = xs.drop (64 * (xs.length / 64))) (hl : rest.length = 64) :
    (rest.take (xs.length % 64) ++ ys).length = 64 ∧
    (rest.take (xs.length % 64) ++ ys).take ((xs ++ ys).length % 64) = (xs ++ ys).drop (64 * ((xs ++ ys).length / 64)) ∧
    turns hH (xs ++ ys) ((xs ++ ys).length / 64) = turn (turns hH xs (xs.length / 64)) (rest.take (xs.length % 64) ++ ys) := by
  subst hn
  have e1 : (xs ++ ys).length / 64 = xs.length / 64 + 1 := by rw [List.length_append]; omega
  have e2 : (xs ++ ys).length % 64 = 0 := by rw [List.length_append]; omega
  refine ⟨by simp; omega, ?_, ?_⟩
  · rw [e1, e2, List.take_zero, List.drop_of_length_le (by simp; omega)]
  · rw [e1, turns, turns_left _ _ _ _ (by omega), List.drop_append_of_le_length (by omega), hr, List.take_of_length_le (by simp; omega)]

/-- The address lies elsewhere. -/
def Sep (A : Option Addr) (g : Nat) : Prop := ∀ ad, A = some ad → ad.block ≠ g
theorem Rd.only {w w' : World} {A : Option Addr} {n c g : Nat} {xs : List UInt8} (h : Rd w A n c xs) (hs : Sep A g) (ho : w.grownBy w' (some g)) : Rd w' A n c xs :=
  ⟨h.len, h.cap, h.max, h.nil, fun hn => by
    obtain ⟨b, off, e, hb, hc⟩ := h.at_ hn
    refine ⟨b, off, e, Nat.lt_of_lt_of_le hb ho.size, fun j hj => (World.cell?_of_block (ho.block b hb (fun e' => hs _ e (by injection e')))).trans (hc j hj)⟩⟩
theorem only_row {w : World} {g : Nat} (cs : Array Value) : w.grownBy (w.setRow g cs) (some g) :=
  ⟨rfl, rfl, rfl, by simp [World.setRow], fun i hi hne => setRow_other w g i cs (by rintro rfl; exact hne rfl)⟩

/-- 'copy' into the middle of a block that is known whole. -/
theorem wpList_copy_bk {P : Program} {w : World} {ops : Array Oper} {rest : List Oper} {o : Oper} {a : Act} {Q : Exit → Act → World → Prop} (hgd : o.guard = none) (d s : Operand) (dT sT : TypeId)
    (ho : o.op = .call { callee := .builtin .copy, args := #[d, s], argTypes := #[dT, sT] }) (elem : TypeId) (hu : P.underlying dT = some (.slice elem)) (hsz : (P.info? elem).map (·.size) = some 1)
    (g off dLen dCap : Nat) (A : Option Addr) (m c : Nat) (ys : List UInt8) (hd : a.eval d = .slice (some ⟨g, off, none⟩) dLen dCap) (hs : a.eval s = .slice A m c) (hr : Rd w A m c ys) (hm : 0 < m)
    (L M R : List Value) (t : TypeId) (hb : Bk w g t (L ++ M ++ R).toArray) (hL : L.length = off) (q : Nat) (hq : q = Nat.min m dLen) (hM : M.length = q)
    (h : ∀ w', Bk w' g t (L ++ bv (ys.take q) ++ R).toArray → w.grownBy w' (some g) → wpList P ops Q rest (a.put o.dst (.int .i64 (q : Int))) w') : wpList P ops Q (o :: rest) a w := by
  obtain ⟨b, off', rfl, hbl, hc⟩ := hr.at_ hm
  have hl := hr.len
  have hql : (bv (ys.take q)).length = q := by rw [bv_length, List.length_take]; subst hq; exact Nat.min_eq_left (by rw [hl]; exact Nat.min_le_left _ _)
  refine wpList_copy_own hgd d s dT sT ho elem hu hsz g off dLen dCap ⟨b, off', none⟩ m c hd hs _ t hb (bv (ys.take q)) (by rw [hql, hq]) (fun j v hv => ?_) (by simp [hql]; omega) (fun v hv => bv_one _ v hv) ?_
  · have hj : j < q := by rw [← hql]; exact (List.getElem?_eq_some_iff.1 hv).1
    have hjm : j < m := by subst hq; exact Nat.lt_of_lt_of_le hj (Nat.min_le_left _ _)
    rw [bv_at _ _ (by rw [List.length_take]; omega)] at hv
    rw [Addr.add_mid, hc j hjm, ← hv]
    simp [List.getD, hl ▸ hjm]
  · have e : (L ++ M ++ R).toArray.toList.take off ++ (bv (ys.take q) ++ (L ++ M ++ R).toArray.toList.drop (off + (bv (ys.take q)).length)) = L ++ bv (ys.take q) ++ R := by
      have h1 : (L ++ M ++ R).take off = L := by rw [List.append_assoc, ← hL]; simp
      have h2 : (L ++ M ++ R).drop (off + q) = R := by rw [show off + q = (L ++ M).length by simp; omega]; simp
      rw [List.toList_toArray, hql, h1, h2, List.append_assoc]
    rw [e, hql]
    exact h _ (Bk.row hb _) (only_row _)
/-- 'a[l:]' of an array of bytes in memory, l below its end. -/
theorem run_cutArrL (T : TypeId) (N b o : Nat) (l : Int) (l' : Nat) (hT : Tryz.prog.underlying T = some (.array N 5)) (hl : l = l') (h3 : l' < N) (W : World) :
    (Instr.sliceAt T (.pointer (some ⟨b, o, none⟩)) (some (.int .i64 l)) none none).run Tryz.prog W = .ok (.slice (some ⟨b, o + l', none⟩) (N - l') (N - l')) W := by
  have ea : Tryz.prog.arrayLen T = N := by simp [Program.arrayLen, hT]
  have ee : Tryz.prog.elem T = 5 := by simp [Program.elem, hT]
  have hs : (sizeOf 5).run Tryz.prog W = .ok 1 W := by kernel_rfl
  subst hl
  rw [run_sliceAt_array_l W T _ (by rw [ea, ee]; exact hT) .i64 l' (by omega) (by rw [ea]; omega), ee, hs]
  simp only [Result.andThen, slicedAt, ea, Int.toNat_natCast, Nat.mul_one]
  rw [if_neg (by omega)]
  simp only [Addr.add]
  split <;> simp_all

def lenOf (v : Value) : Nat := match v with
  | .slice _ n _ => n
  | _ => 0
theorem hC_parts (s : St) (r : List UInt8) (n k q : Nat) : hC s r n = (sL s ++ bv (r.take k)) ++ bv ((r.drop k).take q) ++ (bv (r.drop (k + q)) ++ [.int .u64 (n : Int)]) := by
  have e : bv r = bv (r.take k) ++ (bv ((r.drop k).take q) ++ bv (r.drop (k + q))) := by
    rw [← bv_append, ← bv_append, ← List.drop_drop, List.take_append_drop, List.take_append_drop]
  simp only [hC, e, List.append_assoc]
theorem put_last (Y : List Value) (a b : Value) (n : Nat) (h : Y.length = n) : (Y ++ [a]).toArray.setIfInBounds n b = (Y ++ [b]).toArray := by
  subst h
  simp
theorem hash_size {w : World} {g : Nat} {s : St} {r : List UInt8} {n : Nat} (h : Bk w g 179 (hC s r n).toArray) (hr : r.length = 64) (m : Int) :
    Bk (w.setCell ⟨g, 72, none⟩ (.int .u64 m)) g 179 (sL s ++ bv r ++ [Value.int .u64 m]).toArray := by
  have := h.put 72 (.int .u64 m)
  rw [hC, put_last _ _ _ _ (by simp [sL_length, bv_length, hr])] at this
  exact this
theorem hC_mid (s : St) (r zs : List UInt8) (k q n : Nat) : (sL s ++ bv (r.take k)) ++ bv zs ++ (bv (r.drop (k + q)) ++ [Value.int .u64 (n : Int)]) = hC s (r.take k ++ zs ++ r.drop (k + q)) n := by
  simp only [hC, bv_append, List.append_assoc]
theorem hC_72 {w : World} {g : Nat} {s : St} {r : List UInt8} {n : Nat} (h : Bk w g 179 (hC s r n).toArray) (hr : r.length = 64) : w.cell? ⟨g, 72, none⟩ = some (.int .u64 (n : Int)) := by
  rw [h.cell]
  simp [hC, sL, bv, hr]
theorem hash_sized {w : World} {g : Nat} {s : St} {r : List UInt8} {n q : Nat} (h : Bk w g 179 (hC s r n).toArray) (hr : r.length = 64) :
    Bk (w.setCell ⟨g, 72, none⟩ (.int .u64 ((n : Int) + (q : Int)))) g 179 (hC s r (n + q)).toArray := by
  have := hash_size h hr ((n : Int) + (q : Int))
  rw [← Int.natCast_add] at this
  exact this
theorem load_st {w : World} {g : Nat} {s : St} {r : List UInt8} {n : Nat} (h : Bk w g 179 (hC s r n).toArray) :
    (Instr.loadAt 168 (.pointer (some ⟨g, 0, none⟩))).run Tryz.prog w = .ok (.agg (sA s)) w := by
  have h1 : Bk w g 179 ([] ++ sL s ++ (bv r ++ [Value.int .u64 (n : Int)])).toArray := by simpa [hC] using h
  exact run_loadAt_mid w g 0 168 (sL s) _ h1.range Tryz.underlying168 rfl Tryz.info8
theorem load_rest {w : World} {g : Nat} {s : St} {r : List UInt8} {n : Nat} (h : Bk w g 179 (hC s r n).toArray) (hr : r.length = 64) :
    (Instr.loadAt 104 (.pointer (some ⟨g, 8, none⟩))).run Tryz.prog w = .ok (.agg (bv r).toArray) w := by
  exact run_loadAt_mid w g 8 104 (bv r) _ h.range Tryz.underlying104 rfl (by rw [bv_length, hr]; kernel_rfl)
theorem hC_st {w : World} {g : Nat} {s : St} {r : List UInt8} {n : Nat} (h : Bk w g 179 (hC s r n).toArray) (i : Nat) (hi : i < 8) : w.cell? ⟨g, i, none⟩ = (sL s)[i]? := by
  rw [h.cell, hC, List.append_assoc, List.getElem?_toArray, List.getElem?_append_left (by rw [sL_length]; exact hi)]
theorem store_st {w : World} {g : Nat} {s : St} {r : List UInt8} {n : Nat} (h : Bk w g 179 (hC s r n).toArray) (s' : St) :
    (Instr.storeAt 168 (.pointer (some ⟨g, 0, none⟩)) (.agg (sA s'))).run Tryz.prog w = .ok () (w.setCells g 0 (sL s')) := by
  exact run_storeAt_mid w g 0 168 (sA s') (h.there 0 8 (by simp [hC, sL_length])) Tryz.info8 (sA_one _)
theorem stored_st {w : World} {g : Nat} {s : St} {r : List UInt8} {n : Nat} (h : Bk w g 179 (hC s r n).toArray) (s' : St) :
    Bk (w.setCells g 0 (sL s')) g 179 (hC s' r n).toArray := by
  have h1 : Bk w g 179 ([] ++ sL s ++ (bv r ++ [Value.int .u64 (n : Int)])).toArray := by simpa [hC] using h
  have := Bk.puts (sL s') [] (sL s) _ w h1 rfl
  simpa [hC] using this
theorem only_puts {w : World} {g : Nat} : ∀ (vs : List Value) (o : Nat) (w' : World), w.grownBy w' (some g) → w.grownBy (w'.setCells g o vs) (some g)
  | [], _, _, h => h
  | v :: vs, o, w', h => by
    rw [World.setCells]
    exact only_puts vs (o + 1) _ (only_put h (.inl rfl) v)
theorem run_cutSl {A : Option Addr} {n c k : Nat} {l : Int} (hl : l = k) (hk : k ≤ n) (W : World) :
    (Instr.slice 23 (.slice A n c) (some (.int .i64 l)) none none).run Tryz.prog W = .ok (.slice (if c = k then A else A.map (·.add k)) (n - k) (c - k)) W := by
  have ee : Tryz.prog.elem 23 = 5 := by kernel_rfl
  have hs : (sizeOf 5).run Tryz.prog W = .ok 1 W := by kernel_rfl
  subst hl
  rw [run_slice_l W 23 A n c (by rw [ee]; exact Tryz.underlying23) .i64 k (by omega) (by omega), ee, hs]
  simp [Result.andThen, sliced]
theorem run_cutSlAt {A : Option Addr} {n c k : Nat} {l : Int} (hl : l = k) (hk : k ≤ n) (W : World) :
    (Instr.sliceAt 23 (.slice A n c) (some (.int .i64 l)) none none).run Tryz.prog W = .ok (.slice (if c = k then A else A.map (·.add k)) (n - k) (c - k)) W := by
  have ee : Tryz.prog.elem 23 = 5 := by kernel_rfl
  rw [run_sliceAt_slice W 23 _ _ _ _ (by rw [ee]; exact Tryz.underlying23)]
  exact run_cutSl hl hk W
theorem cut_sep {A : Option Addr} {g c k : Nat} (h : Sep A g) : Sep (if c = k then A else A.map (·.add k)) g := by
  intro ad e
  split at e
  · exact h ad e
  · cases A with
    | none => cases e
    | some a =>
      simp at e
      subst e
      have := h a rfl
      unfold Addr.add
      split <;> exact this
theorem kok_only {w w' : World} {g : Nat} (h : KOk w) (ho : w.grownBy w' (some g)) (hg : g ≠ 1) : KOk w' := fun i hi => by
  have h0 := h i hi
  exact (World.cell?_of_block (ho.block _ (World.block_lt_of_cell? w _ h0) (fun e => hg (by injection e with e; exact e.symm)))).trans h0
set_option maxHeartbeats 1000000 in
theorem write_any (g : Nat) (A : Option Addr) (n c : Nat) (xs ys : List UInt8) (w : World) (hh : HashIs w g xs) (hr : Rd w A n c ys) (hs : 0 < n → Sep A g) (hk : KOk w) (hg : g ≠ 1) (hm : xs.length + n ≤ 4294967296) :
    Calls Tryz.prog 112 #[.pointer (some ⟨g, 0, none⟩), .slice A n c] w fun e w' => e = .returned (.tuple #[]) ∧ HashIs w' g (xs ++ ys) ∧ w.grownBy w' (some g) := by
  have HK := Lib.hid hk
  have HM := Lib.hid hm
  have HYL := Lib.hid hr.len
  have HNE := Lib.hid hg
  clear hk hm hg
  go_enter Tryz.func112, Tryz.ntmps112
  go_wp2
  go_loopw [1, 4, 5] (fun v _ _ wr => ∃ (p m c' : Nat) (A' : Option Addr), v = .slice A' m c' ∧ Hid (p + m = n) ∧ Rd wr A' m c' (ys.drop p) ∧ Hid (0 < m → Sep A' g) ∧ Hid (HashIs wr g (xs ++ ys.take p)) ∧ w.grownBy wr (some g))
    (fun v _ _ _ => lenOf v)
  case atStart => exact ⟨0, n, c, A, rfl, by show _ = _; omega, by simpa using hr, hs, by show HashIs _ _ _; simpa using hh, World.grownBy.refl _ _⟩
  case round =>
    obtain ⟨p, m, c', A', rfl, HP, rd, HS, HH, ho⟩ := hrel
    by_cases hlt : 0 < m
    · obtain ⟨r, hr1, hr2, hb⟩ := HH.out
      obtain ⟨X, hX⟩ : ∃ X, X = xs ++ ys.take p := ⟨_, rfl⟩
      rw [← hX] at hr2 hb
      obtain ⟨L, hL⟩ : ∃ L, L = X.length := ⟨_, rfl⟩
      obtain ⟨k, hkk⟩ : ∃ k, k = L % 64 := ⟨_, rfl⟩
      obtain ⟨q, hq⟩ : ∃ q, q = min m (64 - k) := ⟨_, rfl⟩
      obtain ⟨st, hst⟩ : ∃ st, st = turns hH X (X.length / 64) := ⟨_, rfl⟩
      obtain ⟨zs, hzs⟩ : ∃ zs, zs = (ys.drop p).take q := ⟨_, rfl⟩
      have hLm : L + m ≤ 4294967296 := by
        have h1 := HM.out
        have h2 := HP.out
        have h3 := hr.len
        rw [hL, hX]
        simp
        omega
      rw [← hst, ← hL, hC_parts _ _ _ k q] at hb
      have k64 : k < 64 := by omega
      have q64 : k + q ≤ 64 := by omega
      have qm : q ≤ m := by omega
      have q0 : 0 < q := by omega
      have zl : zs.length = q := by rw [hzs]; simp; have := HYL.out; have := HP.out; omega
      have cL : wr.cell? ⟨g, 72, none⟩ = some (.int .u64 (L : Int)) := by
        rw [hb.cell, ← hC_parts]
        simp [hC, sL, bv, hr1]
      have eat : (L : Int) % 64 = (k : Int) := by omega
      have hsl := run_cutArrL 104 64 g 8 (k : Int) k Tryz.underlying104 rfl k64
      have hwk : IntKind.i64.wrap (k : Int) = (k : Int) := by rw [IntKind.wrap_i64]; omega
      have hwq : IntKind.u64.wrap (q : Int) = (q : Int) := by rw [IntKind.wrap_u64]; omega
      have hwL : IntKind.u64.wrap ((L : Int) + (q : Int)) = (L : Int) + (q : Int) := by rw [IntKind.wrap_u64]; omega
      have hwS : IntKind.i64.wrap ((k : Int) + (q : Int)) = (k : Int) + (q : Int) := by rw [IntKind.wrap_i64]; omega
      have HR1 := Lib.hid hr1
      have HR2 := Lib.hid hr2
      have HX := Lib.hid hX
      have HL := Lib.hid hL
      have HKK := Lib.hid hkk
      have HQ := Lib.hid hq
      have HST := Lib.hid hst
      have HZ := Lib.hid hzs
      have HZL := Lib.hid zl
      clear hr1 hr2 hX hL hkk hq hst hzs zl
      have qmi : (q : Int) ≤ (m : Int) := by omega
      have rcut := rd.cut (k := q) qm
      have hc' := rd.cap
      have hcs := fun W => run_cutSl (A := A') (n := m) (c := c') (k := q) (l := (q : Int)) rfl qm W
      have hcs' := fun W => run_cutSlAt (A := A') (n := m) (c := c') (k := q) (l := (q : Int)) rfl qm W
      have HS2 := Lib.hid (cut_sep (c := c') (k := q) (HS.out hlt))
      obtain ⟨A2, hA2⟩ : ∃ A2, A2 = (if c' = q then A' else A'.map (·.add q)) := ⟨_, rfl⟩
      rw [← hA2] at rcut hcs hcs' HS2
      clear hA2
      obtain ⟨rr, hrr⟩ : ∃ rr, rr = r.take k ++ zs ++ r.drop (k + q) := ⟨_, rfl⟩
      have HRR := Lib.hid hrr
      have HRL := Lib.hid (show rr.length = 64 by rw [hrr]; have := HR1.out; have := HZL.out; simp; omega)
      clear hrr
      by_cases hfull : k + q = 64
      · have ht : ((k : Int) + (q : Int) == 64) = true := by simp; omega
        have HF := Lib.hid hfull
        clear hfull
        go_wp2_with ((refine wpList_copy_bk rfl (.tmp 19) (.tmp 20) 23 23 rfl 5 Tryz.underlying23 (by kernel_rfl) g (8 + k) (64 - k) (64 - k) A' m c' (ys.drop p) rfl rfl rd hlt _ _ _ 179 hb (by have := HR1.out; simp [sL_length, bv_length]; omega) q HQ.out (by have := HR1.out; simp [bv_length]; omega) ?_; intro w1 hb1 ho1; rw [← HZ.out, hC_mid, ← HRR.out] at hb1; have cL1 := hC_72 hb1 HRL.out; have f1 := hb1.frozen 72))
        have hb2 := hash_sized (q := q) hb1 HRL.out
        obtain ⟨w2, hw2⟩ : ∃ w2, w2 = w1.setCell ⟨g, 72, none⟩ (.int .u64 ((L : Int) + (q : Int))) := ⟨_, rfl⟩
        rw [← hw2] at hb2 ⊢
        have ho2 : wr.grownBy w2 (some g) := by rw [hw2]; exact only_put ho1 (.inl rfl) _
        clear hw2 hb1 cL1 f1
        have hl1 := load_st hb2.drew
        have hl2 := load_rest hb2.drew HRL.out
        have HK2 := Lib.hid (kok_only HK.out (only_drewN (only_trans ho ho2) 1) HNE.out)
        change Hid (KOk w2.drew) at HK2
        have hb2 := hb2.drew
        have ho2 := only_drewN ho2 1
        change wr.grownBy w2.drew (some g) at ho2
        refine wp_region_any (by kernel_rfl) ?_
        change wpAny _ _ _ _ _ _ _ (World.drew _)
        obtain ⟨w3, hw3⟩ : ∃ w3, w3 = w2.drew := ⟨_, rfl⟩
        rw [← hw3] at hb2 ho2 hl1 hl2 HK2
        rw [← hw3]
        clear hw3
        have HL1 := Lib.hid hl1
        have HL2 := Lib.hid hl2
        clear hl1 hl2
        refine wpAny_take (i := 0) (v := ?va0) rfl (by kernel_rfl) (by kernel_rfl) (by kernel_rfl) (fun _ _ _ h => h) (Or.inl ⟨by rfl, ?hy0⟩) ?re0
        case hy0 => (intro w'; go_simp; try with_reducible rfl)
        simp only [Act.put, List.setIfInBounds_toArray, List.set_cons_zero, List.set_cons_succ]
        refine wpAny_take (i := 1) (v := ?va1) rfl (by kernel_rfl) (by kernel_rfl) (by kernel_rfl) (fun _ _ _ h => h) (Or.inl ⟨by rfl, ?hy1⟩) ?re1
        case hy1 => (intro w'; go_simp; try with_reducible rfl)
        simp only [Act.put, List.setIfInBounds_toArray, List.set_cons_zero, List.set_cons_succ]
        refine wpAny_take (i := 2) (v := ?va2) rfl (by kernel_rfl) (by kernel_rfl) (by kernel_rfl) (fun _ _ _ h => h) (Or.inl ⟨by rfl, ?hy2⟩) ?re2
        case hy2 => (intro w'; go_simp; try with_reducible rfl)
        simp only [Act.put, List.setIfInBounds_toArray, List.set_cons_zero, List.set_cons_succ]
        refine wpAny_take (i := 3) (v := ?va3) rfl (by kernel_rfl) (by kernel_rfl) (by kernel_rfl) (fun _ _ _ h => h) (Or.inl ⟨by rfl, ?hy3⟩) ?re3
        case hy3 => (intro w'; go_simp; try with_reducible rfl)
        simp only [Act.put, List.setIfInBounds_toArray, List.set_cons_zero, List.set_cons_succ]
        refine wpAny_take (i := 5) (v := ?va5) rfl (by kernel_rfl) (by kernel_rfl) (by kernel_rfl) (fun _ _ _ h => h) (Or.inl ⟨by rfl, ?hy5⟩) ?re5
        case hy5 => (intro w'; go_simp; try with_reducible rfl)
        simp only [Act.put, List.setIfInBounds_toArray, List.set_cons_zero, List.set_cons_succ]
        refine wpAny_take (i := 6) (v := ?va6) rfl (by kernel_rfl) (by kernel_rfl) (by kernel_rfl) (fun _ _ _ h => h) (Or.inl ⟨by rfl, ?hy6⟩) ?re6
        case hy6 => (intro w'; go_simp; try with_reducible rfl)
        simp only [Act.put, List.setIfInBounds_toArray, List.set_cons_zero, List.set_cons_succ]
        refine wpAny_take (i := 7) (v := ?va7) rfl (by kernel_rfl) (by kernel_rfl) (by kernel_rfl) (fun _ _ _ h => h) (Or.inl ⟨by rfl, ?hy7⟩) ?re7
        case hy7 => (intro w'; go_simp; try with_reducible rfl)
        simp only [Act.put, List.setIfInBounds_toArray, List.set_cons_zero, List.set_cons_succ]
        refine wpAny_loads 4 8 42 46 41 45 168 104 (.pointer (some ⟨g, 0, none⟩)) (.pointer (some ⟨g, 8, none⟩)) (.agg (sA st)) (.agg (bv rr).toArray) rfl rfl (by decide) (by kernel_rfl) (by kernel_rfl) (by kernel_rfl) rfl rfl rfl rfl rfl rfl (by decide) (by decide) (by decide) (by simp [Act.eval]) (by simp [Act.eval]) HL1.out HL2.out ?_
        simp only [Act.put, List.setIfInBounds_toArray, List.set_cons_zero, List.set_cons_succ]
        refine wpAny_seq 9 rfl (by kernel_rfl) ?_
        simp only [List.drop_succ_cons, List.drop_zero]
        have HB2 := Lib.hid hb2
        have HO2 := Lib.hid ho2
        clear hb2 ho2
        go_wp2_with (first
          | (go_at_call 124; ((with_reducible refine (turn_any st rr _ HRL.out HK2.out).mono ?_); rintro e w4 ⟨rfl, hb4⟩; have HB4 := Lib.hid hb4; clear hb4))
          | (refine wpList_store_mid rfl 168 _ _ rfl g 0 (sA (turn st rr)) rfl rfl ((HB2.out.below HB4.out HB2.out.lt).there 0 8 (by simp [hC, sL_length])) Tryz.info8 (sA_one _) ?_))
        simp only [Act.put]
        go_roundw
        case rel =>
          have hb4 := stored_st (HB2.out.below HB4.out HB2.out.lt) (turn st rr)
          have ho4 := only_puts (sL (turn st rr)) 0 w4 (only_below HO2.out HB4.out)
          clear hcs hcs' hsl hwk hwq hwL hwS ht eat cL
          have e := HX.out
          obtain ⟨f1, f2, f3⟩ := more_full X zs r q HZL.out.symm (by have := HKK.out; have := HL.out; have := HF.out; omega) HR2.out HR1.out
          have hd : r.drop (k + q) = [] := List.drop_of_length_le (by have := HR1.out; have := HF.out; omega)
          have hrr := HRR.out
          rw [hd, List.append_nil] at hrr
          have hkL : X.length % 64 = k := by rw [HKK.out, HL.out]
          rw [hkL, ← hrr] at f1 f2 f3
          have hx2 : xs ++ ys.take (p + q) = X ++ zs := by rw [e, HZ.out, List.append_assoc, List.take_add]
          refine ⟨p + q, m - q, c' - q, A2, rfl, (by show _ = _; have := HP.out; omega), ?_, fun _ => HS2.out, ?_, only_trans ho ho4⟩
          · rw [← List.drop_drop]; exact Rd.only rcut HS2.out ho4
          · show HashIs _ _ _
            rw [hx2]
            refine ⟨rr, f1, f2, ?_⟩
            rw [f3, ← HST.out, List.length_append, ← HL.out, HZL.out]
            exact hb4
        case measure => simp [lenOf]; omega
      · have ht : ((k : Int) + (q : Int) == 64) = false := by simp; omega
        have HF := Lib.hid hfull
        clear hfull
        go_wp2_with ((refine wpList_copy_bk rfl (.tmp 19) (.tmp 20) 23 23 rfl 5 Tryz.underlying23 (by kernel_rfl) g (8 + k) (64 - k) (64 - k) A' m c' (ys.drop p) rfl rfl rd hlt _ _ _ 179 hb (by have := HR1.out; simp [sL_length, bv_length]; omega) q HQ.out (by have := HR1.out; simp [bv_length]; omega) ?_; intro w1 hb1 ho1; rw [← HZ.out, hC_mid, ← HRR.out] at hb1; have cL1 := hC_72 hb1 HRL.out; have f1 := hb1.frozen 72))
        go_roundw
        case rel =>
          have hb2 := hash_sized (q := q) hb1 HRL.out
          have ho2 := only_put (p := ⟨g, 72, none⟩) ho1 (.inl rfl) (.int .u64 ((L : Int) + (q : Int)))
          clear hcs hcs' hsl hwk hwq hwL hwS ht eat cL cL1 f1 hb1 ho1
          have e := HX.out
          have hlt' : X.length % 64 + q < 64 := by have := HKK.out; have := HL.out; have := HF.out; omega
          obtain ⟨f1, f2, f3⟩ := more_part X zs r q HZL.out.symm hlt' HR2.out HR1.out
          have hrr := HRR.out
          have hkL : X.length % 64 = k := by rw [HKK.out, HL.out]
          rw [hkL, ← hrr] at f1 f2
          have hx2 : xs ++ ys.take (p + q) = X ++ zs := by rw [e, HZ.out, List.append_assoc, List.take_add]
          refine ⟨p + q, m - q, c' - q, A2, rfl, (by show _ = _; have := HP.out; omega), ?_, fun _ => HS2.out, ?_, only_trans ho ho2⟩
          · rw [← List.drop_drop]; exact Rd.only rcut HS2.out ho2
          · show HashIs _ _ _
            rw [hx2]
            refine ⟨rr, f1, f2, ?_⟩
            rw [f3, ← HST.out, List.length_append, ← HL.out, HZL.out]
            exact hb2
        case measure => simp [lenOf]; omega
    · have hm0 : ¬ 0 < (m : Int) := by omega
      go_wp2
      go_end0
      have h1 := HP.out
      have h2 := HYL.out
      have h3 := HH.out
      rw [List.take_of_length_le (by omega)] at h3
      exact ⟨rfl, h3, ho⟩
theorem sep_new {w : World} {A : Option Addr} {n c g : Nat} {xs : List UInt8} (h : Rd w A n c xs) (hg : w.heap.size ≤ g) : 0 < n → Sep A g := fun hn ad e => by
  obtain ⟨b, off, rfl, hb, _⟩ := h.at_ hn
  injection e with e
  subst e
  show b ≠ g
  omega
end Go.Proofs.YtnoflgkjdibblaaGreatDoor.S2

/-
  A text that is summed: what New and end do.
-/
namespace Go.Proofs.YtnoflgkjdibblaaGreatDoor.S2
set_option linter.unusedSimpArgs false
set_option linter.unusedVariables false
set_option maxRecDepth 1024
open Go.RowKit

/-- The constants lie in their variables. -/
structure GOk (w : World) : Prop where
  k : KOk w
  h : ∀ i, i < 8 → w.cell? ⟨0, i, none⟩ = (sL hH)[i]?
theorem GOk.below {w w' : World} {B : Nat} (h : GOk w) (hB : w.heap.size ≤ B) (hb : Below B w w') : GOk w' :=
  ⟨h.k.below hB hb, fun i hi => by
    have h0 := h.h i hi
    obtain ⟨v, hv⟩ : ∃ v, (sL hH)[i]? = some v := ⟨(sL hH)[i]'(by rw [sL_length]; exact hi), List.getElem?_eq_getElem _⟩
    rw [hv] at h0 ⊢
    rw [hb.cell (Nat.lt_of_lt_of_le (World.block_lt_of_cell? w _ h0) hB)]
    exact h0⟩
theorem GOk.only {w w' : World} {g : Nat} (h : GOk w) (ho : w.grownBy w' (some g)) (h0 : g ≠ 1) (h1 : g ≠ 0) : GOk w' :=
  ⟨kok_only h.k ho h0, fun i hi => by
    have h0 := h.h i hi
    obtain ⟨v, hv⟩ : ∃ v, (sL hH)[i]? = some v := ⟨(sL hH)[i]'(by rw [sL_length]; exact hi), List.getElem?_eq_getElem _⟩
    rw [hv] at h0 ⊢
    exact (World.cell?_of_block (ho.block _ (World.block_lt_of_cell? w _ h0) (fun e => h1 (by injection e with e; exact e.symm)))).trans h0⟩
theorem GOk.lt {w : World} (h : GOk w) : 1 < w.heap.size ∧ 0 < w.heap.size :=
  ⟨World.block_lt_of_cell? w _ (h.k 0 (by omega)), World.block_lt_of_cell? w _ ((h.h 0 (by omega)).trans rfl)⟩

theorem Tryz.builtHash : Tryz.prog.built 179 [(0, .agg (sA hH))] = some (hC hH (List.replicate 64 0) 0).toArray := by kernel_rfl
set_option maxHeartbeats 1000000 in
theorem new_any (w : World) (hg : GOk w) :
    Calls Tryz.prog 111 #[] w fun e w' => e = .returned (.pointer (some ⟨w.heap.size, 0, none⟩)) ∧ HashIs w' w.heap.size [] ∧ Below w.heap.size w w' := by
  have hr : w.rangeAt 0 0 (sL hH) := fun j v hv => by
    have hj : j < 8 := (List.getElem?_eq_some_iff.1 hv).1
    rw [Nat.zero_add, hg.h j hj, hv]
  have HR := Lib.hid hr
  obtain ⟨cs, hcs⟩ : ∃ cs, cs = (hC hH (List.replicate 64 0) 0).toArray := ⟨_, rfl⟩
  have HB := Lib.hid (show Tryz.prog.built 179 [(0, .agg (sA hH))] = some cs by rw [hcs]; exact Tryz.builtHash)
  have HCS := Lib.hid hcs
  clear hcs hr
  go_enter Tryz.func111, Tryz.ntmps111
  go_wp2_with (first
    | (refine wpList_load_mid rfl 168 _ rfl 0 0 rfl (sL hH) _ HR.out Tryz.underlying168 rfl Tryz.info8 ?_)
    | (refine wpList_build_to rfl 179 _ rfl cs ?_ ?_))
  · exact HB.out
  go_ret
  refine ⟨rfl, ⟨List.replicate 64 0, by simp, by simp, ?_⟩, (Below.refl _ _).alloc (Nat.le_refl _) _⟩
  have := HCS.out
  rw [this]
  exact Bk.newAt _ _ _ _ rfl

theorem Tryz.zero72 : (Tryz.prog.info? 188).map (fun i => (i.zero, i.size)) = some (some (.agg (bv (List.replicate 72 0)).toArray), 72) := by kernel_rfl
/-- 'a[:h]' of an array of bytes in memory. -/
theorem run_cutArrH (T : TypeId) (N b o : Nat) (h : Int) (h' : Nat) (hT : Tryz.prog.underlying T = some (.array N 5)) (hh : h = h') (h2 : h' ≤ N) (h0 : 0 < N) (W : World) :
    (Instr.sliceAt T (.pointer (some ⟨b, o, none⟩)) none (some (.int .i64 h)) none).run Tryz.prog W = .ok (.slice (some ⟨b, o, none⟩) h' N) W := by
  have ea : Tryz.prog.arrayLen T = N := by simp [Program.arrayLen, hT]
  have ee : Tryz.prog.elem T = 5 := by simp [Program.elem, hT]
  have hs : (sizeOf 5).run Tryz.prog W = .ok 1 W := by kernel_rfl
  subst hh
  rw [run_sliceAt_array_h W T _ (by rw [ea, ee]; exact hT) .i64 h' (by omega) (by rw [ea]; omega), ee, hs]
  simp only [Result.andThen, slicedAt, ea, Int.toNat_natCast, Nat.zero_mul, Nat.sub_zero]
  rw [if_neg (by omega)]
  simp [Addr.add]
/-- What ends a text. -/
def endL (n : Nat) : List UInt8 := (128 :: List.replicate (63 - (n + 8) % 64) 0) ++ putL (8 * n) 8
theorem endL_length (n : Nat) : (endL n).length = 72 - (n + 8) % 64 := by
  have : (n + 8) % 64 < 64 := Nat.mod_lt _ (by omega)
  simp [endL, putL_length]
  omega
theorem pad_end (xs : List UInt8) : pad xs = xs ++ endL xs.length := by simp [pad, endL]
theorem fill_parts (k : Nat) (h1 : 1 ≤ k) (h2 : k ≤ 64) : (bv (List.replicate 72 0)).set 0 (.int .u8 128) = bv (128 :: List.replicate (k - 1) 0) ++ bv (List.replicate 8 0) ++ bv (List.replicate (64 - k) 0) := by
  have e : List.replicate 72 (0 : UInt8) = 0 :: (List.replicate (k - 1) 0 ++ List.replicate 8 0 ++ List.replicate (64 - k) 0) := by
    rw [List.replicate_append_replicate, List.replicate_append_replicate, ← List.replicate_succ]
    congr 1
    omega
  rw [e]
  simp [bv]
theorem HashIs.only {w w' : World} {g b : Nat} {xs : List UInt8} (h : HashIs w g xs) (ho : w.grownBy w' (some b)) (hg : g ≠ b) : HashIs w' g xs := by
  obtain ⟨r, h1, h2, h3⟩ := h
  exact ⟨r, h1, h2, h3.only ho (fun e => hg (by injection e))⟩
theorem end_hash {w w' w'' : World} {g b : Nat} {xs : List UInt8} (h : HashIs w g xs) (hb : Below w.heap.size w w') (ho : w'.grownBy w'' (some b)) (hg : g ≠ b) (hlt : g < w.heap.size) : HashIs w'' g xs :=
  HashIs.only (h.below hb hlt) ho hg
theorem end_rd {w : World} {b k L : Nat} (h : Bk w b 188 (bv (128 :: List.replicate (k - 1) 0) ++ bv ((putL (8 * L) 8).take 8) ++ bv (List.replicate (64 - k) 0)).toArray) (hk : k = 64 - (L + 8) % 64) (k1 : 1 ≤ k) (k2 : k ≤ 64) :
    Rd w (some ⟨b, 0, none⟩) (k + 8) 72 (endL L) := by
  have e : endL L = (128 :: List.replicate (k - 1) 0) ++ (putL (8 * L) 8).take 8 := by
    rw [List.take_of_length_le (by rw [putL_length]; omega), endL, hk, show 64 - (L + 8) % 64 - 1 = 63 - (L + 8) % 64 by omega]
  have hl : (endL L).length = k + 8 := by rw [endL_length]; omega
  rw [← bv_append, ← e] at h
  refine Rd.of_bk h hl (by omega) (by simp [maxLen]) fun j hj => ?_
  rw [Nat.zero_add, List.getElem?_toArray, List.getElem?_append_left (by rw [bv_length]; omega), bv_at _ _ (by omega)]
  simp [List.getD, hl, hj]
theorem end_sep {b g : Nat} (h : b ≠ g) : Sep (some ⟨b, 0, none⟩) g := by
  intro ad e
  injection e with e
  subst e
  exact h
theorem end_len {L k : Nat} {xs : List UInt8} (h : L = xs.length) (hm : L ≤ 2147483648) (hk : k ≤ 64) : xs.length + (k + 8) ≤ 4294967296 := by omega
theorem GOk.only_k {w w' : World} {g : Nat} (h : GOk w) (ho : w.grownBy w' (some g)) (h0 : g ≠ 1) : KOk w' := kok_only h.k ho h0
theorem min8 {k : Nat} (h : k ≤ 64) : 8 = Nat.min 8 (72 - k) := (Nat.min_eq_left (by omega)).symm
set_option maxHeartbeats 1000000 in
theorem end_any (g : Nat) (xs : List UInt8) (w : World) (hh : HashIs w g xs) (hk : GOk w) (hg : g ≠ 1) (hm : xs.length ≤ 2147483648) :
    Calls Tryz.prog 125 #[.pointer (some ⟨g, 0, none⟩)] w fun e w' => e = .returned (.tuple #[]) ∧ HashIs w' g (pad xs) ∧ w.grownBy w' (some g) := by
  obtain ⟨r, hr1, hr2, hb⟩ := hh
  have hlt := hb.lt
  obtain ⟨L, hL⟩ : ∃ L, L = xs.length := ⟨_, rfl⟩
  have cL := hC_72 hb hr1
  rw [← hL] at cL hm
  obtain ⟨k, hkk⟩ : ∃ k, k = 64 - (L + 8) % 64 := ⟨_, rfl⟩
  have k1 : 1 ≤ k := by omega
  have k2 : k ≤ 64 := by omega
  have HH := Lib.hid (show HashIs w g xs from ⟨r, hr1, hr2, hb⟩)
  have ek : 64 - ((L : Int) + 8) % 64 = (k : Int) := by omega
  have hz := (zero_of_info (P := Tryz.prog) Tryz.zero72).1
  obtain ⟨cs, hcs⟩ : ∃ cs, cs = (bv (List.replicate 72 0)).toArray := ⟨_, rfl⟩
  rw [← hcs] at hz
  have hb1 : Bk (w.alloc (.cells cs 188)) w.heap.size 188 cs := Bk.newAt _ _ _ _ rfl
  have c0 : (w.alloc (.cells cs 188)).cell? ⟨w.heap.size, 0, none⟩ = some (.int .u8 0) := by rw [hb1.cell, hcs]; rfl
  have f0 := hb1.frozen 0
  have HB1 := Lib.hid hb1
  have HCS := Lib.hid hcs
  have HL := Lib.hid hL
  have HKK := Lib.hid hkk
  clear hb1 hcs hL hkk hr1 hr2 hb
  go_enter Tryz.func125, Tryz.ntmps125
  go_wp2
  obtain ⟨w1, hw1⟩ : ∃ w1, w1 = (w.alloc (.cells (cs.setIfInBounds 0 (.int .u8 128)) 188)).drew := ⟨_, rfl⟩
  have hB : Below w.heap.size w w1 := by rw [hw1]; exact ((Below.refl _ _).alloc (Nat.le_refl _) _).drew
  have hF : Bk w1 w.heap.size 188 (bv (128 :: List.replicate (k - 1) 0) ++ bv (List.replicate 8 0) ++ bv (List.replicate (64 - k) 0)).toArray := by
    have e : cs.setIfInBounds 0 (.int .u8 128) = (bv (128 :: List.replicate (k - 1) 0) ++ bv (List.replicate 8 0) ++ bv (List.replicate (64 - k) 0)).toArray := by rw [HCS.out, List.setIfInBounds_toArray, fill_parts k k1 k2]
    rw [hw1, ← e]
    exact (Bk.newAt w 188 (cs.setIfInBounds 0 (.int .u8 128)) _ rfl).drew
  have cL1 : w1.cell? ⟨g, 72, none⟩ = some (.int .u64 (L : Int)) := (hB.cell hlt).trans cL
  have hsl := run_cutArrL 188 72 w.heap.size 0 (k : Int) k Tryz.underlying188 rfl (by omega)
  have hsl2 := run_cutArrH 188 72 w.heap.size 0 ((k : Int) + 8) (k + 8) Tryz.underlying188 (by omega) (by omega) (by omega)
  have hw8 : IntKind.u64.wrap (8 * (L : Int)) = 8 * (L : Int) := by rw [IntKind.wrap_u64]; omega
  have HP := Lib.hid (show ∀ W, Calls Tryz.prog 86 #[.int .u64 (8 * (L : Int)), .int .i64 8] W (New W.heap.size W (putL (8 * L) 8)) from fun W => by
    have := put_any (8 * L) 8 W (by omega) (by omega)
    rw [Int.natCast_mul] at this
    exact this)
  have HK1 := Lib.hid (hk.below (Nat.le_refl _) hB)
  have HF := Lib.hid hF
  have HBB := Lib.hid hB
  have HHW := Lib.hid (HH.out.below hB hlt)
  have kI : (k : Int) ≤ 64 := by omega
  clear hF hB
  refine wp_region_any (by kernel_rfl) ?_
  change wpAny _ _ _ _ _ _ _ (World.drew _)
  rw [← hw1]
  clear hw1 c0 f0 ek
  refine wpAny_take (i := 0) (v := ?va0) rfl (by kernel_rfl) (by kernel_rfl) (by kernel_rfl) (fun _ _ _ h => h) (Or.inl ⟨by rfl, ?hy0⟩) ?re0
  case hy0 => (intro w'; go_simp; try with_reducible rfl)
  simp only [Act.put, List.setIfInBounds_toArray, List.set_cons_zero, List.set_cons_succ]
  refine wpAny_take (i := 1) (v := ?va1) rfl (by kernel_rfl) (by kernel_rfl) (by kernel_rfl) (fun _ _ _ h => h) (Or.inl ⟨by rfl, ?hy1⟩) ?re1
  case hy1 => (intro w'; go_simp; try with_reducible rfl)
  simp only [Act.put, List.setIfInBounds_toArray, List.set_cons_zero, List.set_cons_succ]
  refine wpAny_take (i := 2) (v := ?va2) rfl (by kernel_rfl) (by kernel_rfl) (by kernel_rfl) (fun _ _ _ h => h) (Or.inl ⟨by rfl, ?hy2⟩) ?re2
  case hy2 => (intro w'; go_simp; try with_reducible rfl)
  simp only [Act.put, List.setIfInBounds_toArray, List.set_cons_zero, List.set_cons_succ]
  refine wpAny_take (i := 3) (v := ?va3) rfl (by kernel_rfl) (by kernel_rfl) (by kernel_rfl) (fun _ _ _ h => h) (Or.inl ⟨by rfl, ?hy3⟩) ?re3
  case hy3 => (intro w'; go_simp; try with_reducible rfl)
  simp only [Act.put, List.setIfInBounds_toArray, List.set_cons_zero, List.set_cons_succ]
  refine wpAny_take (i := 4) (v := ?va4) rfl (by kernel_rfl) (by kernel_rfl) (by kernel_rfl) (fun _ _ _ h => h) (Or.inl ⟨by rfl, ?hy4⟩) ?re4
  case hy4 => (intro w'; go_simp; try with_reducible rfl)
  simp only [Act.put, List.setIfInBounds_toArray, List.set_cons_zero, List.set_cons_succ]
  refine wpAny_seq 5 rfl (by kernel_rfl) ?_
  simp only [List.drop_succ_cons, List.drop_zero]
  go_wp2_with (first
    | (go_at_call 86; refine (HP.out _).mono ?_; rintro e w2 ⟨A2, n2, c2, rfl, ho2, hb2⟩; obtain rfl : 8 = n2 := (by have e1 := own_len ho2; rw [putL_length] at e1; exact e1); have hr2 := Rd.own ho2; have HR2 := Lib.hid hr2; have HB2 := Lib.hid hb2; clear hr2 hb2 ho2)
    | (refine wpList_copy_bk rfl (.tmp 14) (.tmp 20) 23 23 rfl 5 Tryz.underlying23 (by kernel_rfl) w.heap.size k (72 - k) (72 - k) A2 8 c2 (putL (8 * L) 8) rfl rfl HR2.out (by decide) _ _ _ 188 (HF.out.below HB2.out HF.out.lt) (by simp [bv_length]; omega) 8 (min8 k2) (by simp [bv_length]) ?_; intro w3 hb3 ho3; have HB3 := Lib.hid hb3; have HO3 := Lib.hid ho3; clear hb3 ho3)
    | (go_at_call 112; ((with_reducible refine (write_any g (some ⟨w.heap.size, 0, none⟩) (k + 8) 72 xs (endL L) w3 (end_hash HHW.out HB2.out HO3.out (Nat.ne_of_lt hlt) (Nat.lt_of_lt_of_le hlt HBB.out.size)) (end_rd HB3.out HKK.out k1 k2) (fun _ => end_sep (Nat.ne_of_gt hlt)) ((HK1.out.below (Nat.le_refl _) HB2.out).only_k HO3.out (Nat.ne_of_gt hk.lt.1)) hg (end_len HL.out hm k2)).mono ?_); rintro e w4 ⟨rfl, hh4, ho4⟩; have HH4 := Lib.hid hh4; have HO4 := Lib.hid ho4; clear hh4 ho4)))
  go_end0
  refine ⟨rfl, by rw [pad_end, ← HL.out]; exact HH4.out, ?_⟩
  have b1 := HBB.out.trans (HB2.out.mono HBB.out.size)
  have b3 := below_only b1 HO3.out (Nat.le_refl _) b1.size
  exact ⟨HO4.out.os.trans b3.os, HO4.out.tape.trans b3.tape, HO4.out.output.trans b3.output, Nat.le_trans b3.size HO4.out.size, fun i hi hne => (HO4.out.block i (Nat.lt_of_lt_of_le hi b3.size) hne).trans (b3.block i hi)⟩
end Go.Proofs.YtnoflgkjdibblaaGreatDoor.S2
