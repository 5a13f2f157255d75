/-
  Texts put together: SlG, Sl7, Sl10, Sk2, Ds8. No statement is proved here.
-/
import Derived.Test.YtdbamdbdogdpjaaDoorWa14
import Derived.Test.YtdbamdbdogdpjaaDoorWa09
import Derived.Deep.CutRange
import Derived.Deep.LoopGhost
import Derived.Test.YtdbamdbdogdpjaaDoorWa10
import Derived.Test.YtdbamdbdogdpjaaDoorWa16
import Derived.Test.YtdbamdbdogdpjaaDoorWa17
import Derived.Deep.RegionHeld3

/-
  A drawn region that appends what was to lie somewhere: what holds while it is gone through. No statement is proved here.
-/
namespace Go.Proofs.YtdbamdbdogdpjaaDoor.S20
set_option linter.unusedSimpArgs false
set_option linter.unusedVariables false
set_option maxRecDepth 4096
open Go.RowKit S19

theorem run_append_lay {o : Oper} {a : Act} {w w' : World} {v u v' : Value} (s x : Operand) (ho : o.op = .call { callee := .builtin .append, args := #[s, x], argTypes := #[68, 68] }) (hs : a.eval s = v) (hx : a.eval x = u)
    (hrun : (Builtin.append_ #[68, 68] o.type #[v, u]).run Tryd.prog w = .ok v' w') : (execOp a.eval o).run Tryd.prog w = .ok (.value v') w' := by
  simp [execOp, ho, resolve, invoke, builtin, hs, hx, hrun, Result.andThen]
/-- One more has come behind what was to be laid. -/
structure Sx (N : Nat) (w : World) (L : Value) (k : Nat) (v8 : Value) (X : World) : Prop where
  ex : ∃ wl vs, Below w.heap.size w wl ∧ X.ownsRow N 133 2 v8 (k + 1) vs ∧ wl.grownBy X L.ownBlock ∧ (v8.ownBlock = L.ownBlock ∨ v8.ownBlock = some wl.heap.size)
abbrev Gh := Nat × Option Addr × Nat
abbrev v8of (k : Nat) (g : Gh) : Value := .slice g.2.1 (k + 1) g.2.2
/-- What holds of a world, some operations being done: load of the row (10), the literal (24), append (25), the store (28). -/
structure ILay (N : Nat) (w : World) (h : Nat) (L : Value) (k : Nat) (cs : Array Value) (g : Gh) (B : Array Bool) (X : World) : Prop where
  o1 : B.getD 25 false = true → B.getD 24 false = true ∧ B.getD 10 false = true
  o2 : B.getD 28 false = true → B.getD 25 false = true
  s1 : B.getD 25 false = false → Below w.heap.size w X
  s2 : B.getD 24 false = true → B.getD 25 false = false → Bk X g.1 133 cs
  s3 : B.getD 25 false = true → B.getD 28 false = false → Sx N w L k (v8of k g) X
  s4 : B.getD 28 false = true → ∃ X0, Sx N w L k (v8of k g) X0 ∧ X = X0.setCell ⟨h, 0, none⟩ (v8of k g)
section
variable {N : Nat} {w : World} {h q k : Nat} {L : Value} {D : Dk} {Z : Sl} {G S T : Nat → Prop} {cs : Array Value} {g : Gh} {B : Array Bool} {X : World}
theorem ILay.pure (I : ILay N w h L k cs g B X) (i : Nat) (h10 : i ≠ 10) (h24 : i ≠ 24) (h25 : i ≠ 25) (h28 : i ≠ 28) : ILay N w h L k cs g (B.setIfInBounds i true) X := by
  have e10 := SG.getD_ne (L := B) h10
  have e24 := SG.getD_ne (L := B) h24
  have e25 := SG.getD_ne (L := B) h25
  have e28 := SG.getD_ne (L := B) h28
  exact ⟨by rw [e25, e24, e10]; exact I.o1, by rw [e28, e25]; exact I.o2, by rw [e25]; exact I.s1, by rw [e24, e25]; exact I.s2, by rw [e25, e28]; exact I.s3, by rw [e28]; exact I.s4⟩
theorem ILay.load (I : ILay N w h L k cs g B X) : ILay N w h L k cs g (B.setIfInBounds 10 true) X := by
  have e24 := SG.getD_ne (L := B) (show 10 ≠ 24 by decide)
  have e25 := SG.getD_ne (L := B) (show 10 ≠ 25 by decide)
  have e28 := SG.getD_ne (L := B) (show 10 ≠ 28 by decide)
  refine ⟨fun e => ?_, by rw [e28, e25]; exact I.o2, by rw [e25]; exact I.s1, by rw [e24, e25]; exact I.s2, by rw [e25, e28]; exact I.s3, by rw [e28]; exact I.s4⟩
  rw [e25] at e
  refine ⟨by rw [e24]; exact (I.o1 e).1, ?_⟩
  rw [SG.getD_set]
  split
  · rfl
  · exact (I.o1 e).2
/-- Where the literal isn't made, or what is appended isn't, the world has but drawn. -/
theorem ILay.early (I : ILay N w h L k cs g B X) (e : B.getD 10 true = false) : Below w.heap.size w X := by
  refine I.s1 ?_
  cases e25 : B.getD 25 false
  · rfl
  · have h1 := (I.o1 e25).2
    by_cases hs : 10 < B.size
    · rw [SG.getD_false hs, h1] at e; cases e
    · simp [Array.getD_eq_getD_getElem?, Array.getElem?_eq_none (Nat.le_of_not_lt hs)] at h1
theorem getD_tf (i : Nat) (e : B.getD i true = false) : B.getD i false = false ∧ i < B.size := by
  by_cases hs : i < B.size
  · exact ⟨by rw [← SG.getD_false hs]; exact e, hs⟩
  · simp [Array.getD_eq_getD_getElem?, Array.getElem?_eq_none (Nat.le_of_not_lt hs)] at e
theorem ILay.lit (I : ILay N w h L k cs g B X) (h0 : B.getD 24 true = false) : ILay N w h L k cs (X.heap.size, g.2) (B.setIfInBounds 24 true) (X.alloc (.cells cs 133)) := by
  obtain ⟨h1, hs⟩ := getD_tf 24 h0
  have h25 : B.getD 25 false = false := by
    cases e : B.getD 25 false
    · rfl
    · rw [(I.o1 e).1] at h1; cases h1
  have h28 : B.getD 28 false = false := by
    cases e : B.getD 28 false
    · rfl
    · rw [I.o2 e] at h25; cases h25
  have e25 := SG.getD_ne (L := B) (show 24 ≠ 25 by decide)
  have e28 := SG.getD_ne (L := B) (show 24 ≠ 28 by decide)
  have b := I.s1 h25
  refine ⟨fun e => ?_, fun e => ?_, fun _ => b.alloc b.size _, fun _ _ => Bk.newAt _ _ _ _ rfl, fun e => ?_, fun e => ?_⟩
  · rw [e25, h25] at e; cases e
  · rw [e28, h28] at e; cases e
  · rw [e25, h25] at e; cases e
  · rw [e28, h28] at e; cases e
theorem ILay.app (I : ILay N w h L k cs g B X) (h0 : B.getD 25 true = false) (d24 : B.getD 24 false = true) (d10 : B.getD 10 false = true) {A8 : Option Addr} {c8 : Nat} {X' : World} {vs : List Value} (ho : X'.ownsRow N 133 2 (.slice A8 (k + 1) c8) (k + 1) vs) (hg : X.grownBy X' L.ownBlock) (hv : Value.ownBlock (.slice A8 (k + 1) c8) = L.ownBlock ∨ Value.ownBlock (.slice A8 (k + 1) c8) = some X.heap.size) :
    ILay N w h L k cs (g.1, A8, c8) (B.setIfInBounds 25 true) X' := by
  obtain ⟨h1, hs⟩ := getD_tf 25 h0
  have h28 : B.getD 28 false = false := by
    cases e : B.getD 28 false
    · rfl
    · rw [I.o2 e] at h1; cases h1
  have e10 := SG.getD_ne (L := B) (show 25 ≠ 10 by decide)
  have e24 := SG.getD_ne (L := B) (show 25 ≠ 24 by decide)
  have e28 := SG.getD_ne (L := B) (show 25 ≠ 28 by decide)
  have e25 := SG.getD_new (L := B) hs
  refine ⟨fun _ => ⟨by rw [e24]; exact d24, by rw [e10]; exact d10⟩, fun e => ?_, fun e => ?_, fun _ e => ?_, fun _ _ => ⟨⟨X, vs, I.s1 h1, ho, hg, hv⟩⟩, fun e => ?_⟩
  · rw [e28, h28] at e; cases e
  · rw [e25] at e; cases e
  · rw [e25] at e; cases e
  · rw [e28, h28] at e; cases e
theorem ILay.stored (I : ILay N w h L k cs g B X) (h0 : B.getD 28 true = false) (d25 : B.getD 25 false = true) : ILay N w h L k cs g (B.setIfInBounds 28 true) (X.setCell ⟨h, 0, none⟩ (v8of k g)) := by
  obtain ⟨h1, hs⟩ := getD_tf 28 h0
  have e10 := SG.getD_ne (L := B) (show 28 ≠ 10 by decide)
  have e24 := SG.getD_ne (L := B) (show 28 ≠ 24 by decide)
  have e25 := SG.getD_ne (L := B) (show 28 ≠ 25 by decide)
  have e28 := SG.getD_new (L := B) hs
  refine ⟨fun e => ?_, fun _ => by rw [e25]; exact d25, fun e => ?_, fun _ e => ?_, fun _ e => ?_, fun _ => ⟨X, I.s3 d25 h1, rfl⟩⟩
  · rw [e24, e10]; exact I.o1 d25
  · rw [e25, d25] at e; cases e
  · rw [e25, d25] at e; cases e
  · rw [e28] at e; cases e
theorem ILay.start (hB : Below w.heap.size w X) (n : Nat) : ILay N w h L k cs g (Array.replicate n false) X := by
  refine ⟨fun e => ?_, fun e => ?_, fun _ => hB, fun e => ?_, fun e => ?_, fun e => ?_⟩
  all_goals (rw [SG.getD_rep] at e; cases e)
end
end Go.Proofs.YtdbamdbdogdpjaaDoor.S20

/-
  The document's own slots: a record is saved. No statement is proved here. (Written by gensl7.py.)
-/
namespace Go.Proofs.YtdbamdbdogdpjaaDoor.S20
set_option linter.unusedSimpArgs false
set_option linter.unusedVariables false
set_option maxRecDepth 4096
open Go.RowKit S19

theorem write_sure (D : Dk) (i : Int) (b : List UInt8) : (D.write i b).sure = D.sure := by
  unfold Dk.write
  split
  · rfl
  · split
    · split
      · exact Dk.step_sure D
      · exact Dk.step_sure D
    · rfl
theorem flush_len (D : Dk) : D.flush.sure.length = D.sure.length := by
  unfold Dk.flush
  split
  · rfl
  · split
    · exact Dk.laid_len _ _
    · rw [Dk.step_sure]
theorem out_q {G S T : Nat → Prop} {q b : Nat} (hq : S q) (h : Or3 G (fun x => x = q) T b) : Or3 G S T b := by
  rcases h with e | e | e
  · exact .inl e
  · exact .inr (.inl (e ▸ hq))
  · exact .inr (.inr e)
theorem Mv.into {N : Nat} {F F' : Nat → Prop} {w w' : World} (h : Mv N F w w') (hF : ∀ b, F b → F' b) : Mv N F' w w' := h.mono hF
end Go.Proofs.YtdbamdbdogdpjaaDoor.S20

/-
  The document's own slots: what counts is loaded. No statement is proved here. (Written by gensl10.py.)
-/
namespace Go.Proofs.YtdbamdbdogdpjaaDoor.S20
set_option linter.unusedSimpArgs false
set_option linter.unusedVariables false
set_option maxRecDepth 4096
open Go.RowKit S19

/-- What has been looked at. -/
def zz (Z : Sl) (D : Dk) : Nat → Int × Nat × List UInt8
  | 0 => (-1, 0, [])
  | i + 1 => Z.look D i (zz Z D i)
def em (Z : Sl) (D : Dk) : Nat → Bool
  | 0 => false
  | i + 1 => em Z D i || blank (Z.area D i) Z.n
theorem zz_ok (Z : Sl) (D : Dk) : ∀ i, i ≤ 2 → ((zz Z D i).1 = -1 ∨ (zz Z D i).1 = 0 ∨ (zz Z D i).1 = 1) ∧ (zz Z D i).2.1 < 18446744073709551616
  | 0, _ => ⟨.inl rfl, by show 0 < _; omega⟩
  | i + 1, h => look_ok' Z D (by omega) (zz_ok Z D i (by omega))
where
  look_ok' (Z : Sl) (D : Dk) {i : Nat} (hi : i ≤ 1) {z : Int × Nat × List UInt8} (h : (z.1 = -1 ∨ z.1 = 0 ∨ z.1 = 1) ∧ z.2.1 < 18446744073709551616) : ((Z.look D i z).1 = -1 ∨ (Z.look D i z).1 = 0 ∨ (Z.look D i z).1 = 1) ∧ (Z.look D i z).2.1 < 18446744073709551616 := by
    unfold Sl.look
    split
    · refine ⟨at_of hi, ?_⟩
      show (whole _ _).1 < _
      unfold whole
      split
      · exact numOf_lt _
      · show 0 < _; omega
    · exact h
theorem read_ok {D : Dk} (ho : D.off = false) {i : Nat} (hi : i < D.sure.length) : D.readC (i : Int) = 0 ∧ D.readB (i : Int) = D.atS i := by
  have h1 : D.readC (i : Int) = 0 := by
    rw [Dk.readC, if_neg (by rw [ho]; simp), if_pos (by unfold Dk.has; omega)]
  exact ⟨h1, by rw [Dk.readB, if_pos h1]; rfl⟩
theorem wrap_succ (m : Nat) (h : m < 1000000) : wrap64 ((m : Int) + 1) = ((m + 1 : Nat) : Int) := (wrap_nat (m + 1) h).1
theorem meas_of {j n : Nat} {V : Int} (h : V = ((j + 1 : Nat) : Int)) (h9 : n - (j + 1) < n - j) : n - (intOf (.int .i64 V)).toNat < n - (intOf (.int .i64 (j : Int))).toNat := by
  subst h
  simpa [intOf] using h9
theorem step_of {j n1 n : Nat} (h1 : j < n1) (h2 : n1 = n) : j + 1 ≤ n ∧ n - (j + 1) < n - j := by omega
theorem small2_of {j n1 n : Nat} (h1 : j < n1) (h2 : n1 = n) (h3 : n ≤ 8) : j < 1000000 := by omega
theorem lim_of {j n1 n m9 : Nat} (h1 : j < n1) (h2 : n1 = n) (h3 : n ≤ 8) (h4 : m9 = 64 * j) : m9 + 64 ≤ 140737488355328 := by
  have : m9 + 64 ≤ 1000 := by omega
  exact Nat.le_trans this (by decide)
theorem add_nat (f a n k : Nat) (hf : f + 2 * n ≤ 256) (ha : a < 2) (hk : k < n) (hn : n ≤ 8) : ∃ pn fa aj : Nat, (a : Int) * (n : Int) = (pn : Int) ∧ (f : Int) + (pn : Int) = (fa : Int) ∧ (fa : Int) + (k : Int) = (aj : Int) ∧ pn ≤ 1000000 ∧ fa ≤ 1000000 ∧ aj ≤ 1000000 ∧ aj = f + a * n + k ∧ aj < f + 2 * n := by
  have h1 : a = 0 ∨ a = 1 := by omega
  refine ⟨a * n, f + a * n, f + a * n + k, by simp, by simp, by simp, ?_, ?_, ?_, rfl, ?_⟩ <;> rcases h1 with rfl | rfl <;> omega
/-- Where Load's two rows lie. -/
structure Ar (N : Nat) (w : World) (gA q : Nat) (Z : Sl) (D : Dk) (a : Nat) (wr : World) : Prop where
  cs : ∃ cs : Array Value, Bk wr gA 79 cs ∧ cs.size = 2 ∧ (∀ i, i < a → ∃ A c, cs[i]? = some (.slice A (64 * Z.n) c) ∧ Rd wr A (64 * Z.n) c (Z.area D i) ∧ ∀ x, A = some x → x.block ≠ gA) ∧ (∀ i, a ≤ i → i < 2 → cs[i]? = some (.slice none 0 0))
  bel : Below w.heap.size w wr
theorem cell_of {wr : World} {g : Nat} {T : TypeId} {cs : Array Value} (h : Bk wr g T cs) (i : Nat) : wr.cell? ⟨g, i, none⟩ = cs[i]? := h.cell i
theorem whole_small (xs : List UInt8) {n : Nat} (h : 1 ≤ n ∧ n ≤ 8) : (whole xs n).2.length ≤ 140737488355328 := by
  have : (whole xs n).2.length ≤ 1000 := by
    unfold whole
    split
    · rename_i hw
      have h1 := hw.2.1
      rw [room_nat h.1 h.2] at h1
      show (dataOf xs).length ≤ _
      unfold dataOf
      rw [List.length_take]
      omega
    · simp
  exact Nat.le_trans this (by decide)
theorem same_blank (xs : List UInt8) (n : Nat) : sameB xs (List.replicate (64 * n) 0) = blank xs n := by
  unfold sameB blank
  rw [Bool.eq_iff_iff]
  simp
theorem big_of {n1 M : Nat} (h : n1 ≤ 8) (h2 : M = 64 * n1) : M ≤ 1000000 := by omega
/-- What isn't wanted is taken first. -/
theorem h_off {P : Program} {md : Region.Mode} {Q : Exit → Act → World → Prop} {l : List Oper} {S : World → Prop} {fuel : Nat} {L : Array Bool} {a : Act} {w : World} {o : Oper} (i : Nat) (hi : RD.nthO l i = some o) (hs : Region.noSelect l.toArray = true) (hf : Region.free md l.toArray L i = true) (hr : (Region.ready md l.toArray L).contains i = true)
    (hQ : ∀ c a w, Q (.panic c) (a.put o.dst undef) w → Q (.panic c) a w) (hw : Region.wanted o (yielded l.toArray a.tmps) = false) (hS : S w)
    (h : wpAnyH P md l.toArray Q S fuel (L.setIfInBounds i true) (a.put o.dst undef) w) : wpAnyH P md l.toArray Q S (fuel + 1) L a w :=
  wpAnyH_take ((RD.nthO_eq l i).trans hi) hs hf hr hQ (.inr ⟨hw, rfl⟩) hS h
/-- The two rows, while the slots' own block is written. -/
def Rq (gA q : Nat) (Z : Sl) (D : Dk) (X : World) : Prop := ∃ cs : Array Value, Bk X gA 79 cs ∧ ∀ i, i < 2 → ∃ A c, cs[i]? = some (.slice A (64 * Z.n) c) ∧ Rd X A (64 * Z.n) c (Z.area D i) ∧ ∀ x, A = some x → x.block ≠ q
theorem Rq.keep {gA q : Nat} {Z : Sl} {D : Dk} {X Y : World} (r : Rq gA q Z D X) (hne : gA ≠ q) (hs : X.heap.size ≤ Y.heap.size) (hk : ∀ b, b ≠ q → b < X.heap.size → Y.heap[b]? = X.heap[b]?) : Rq gA q Z D Y := by
  obtain ⟨cs, h1, h2⟩ := r
  refine ⟨cs, (hk gA hne h1.lt).trans h1, fun i hi => ?_⟩
  obtain ⟨A, c, e1, e2, e3⟩ := h2 i hi
  refine ⟨A, c, e1, ⟨e2.len, e2.cap, e2.max, e2.nil, fun hn => ?_⟩, e3⟩
  obtain ⟨b, off, e, hb, hc⟩ := e2.at_ hn
  exact ⟨b, off, e, Nat.lt_of_lt_of_le hb hs, fun j hj => (World.cell?_of_block (a := ⟨b, off + j, none⟩) (hk b (e3 _ e) hb)).trans (hc j hj)⟩
end Go.Proofs.YtdbamdbdogdpjaaDoor.S20

/-
  What the landed slots' small calls do: Room, areaLen, other, sector, blank; Done and Must. No statement is proved here.
-/
namespace Go.Proofs.YtdbamdbdogdpjaaDoor.S20
set_option linter.unusedSimpArgs false
set_option linter.unusedVariables false
set_option maxRecDepth 4096
open Go.RowKit S19

theorem area_any (n : Nat) (h : n ≤ 1000) (w : World) : Calls Tryd.prog 27 #[.int .i64 (n : Int)] w fun e w' => e = .returned (.int .i64 ((64 * n : Nat) : Int)) ∧ w = w' := by
  have e1 : wrap64 ((n : Int) * 64) = ((64 * n : Nat) : Int) := by rw [show ((n : Int) * 64) = ((64 * n : Nat) : Int) by omega]; exact (wrap_nat _ (by omega)).1
  go_enter Tryd.func27, Tryd.ntmps27
  go_wp2_with (fail)
  go_ret
  refine ⟨?_, rfl⟩
  show Ending.returned (Value.int .i64 ((n : Int) * 64)) = _
  rw [show ((n : Int) * 64) = ((64 * n : Nat) : Int) by omega]
theorem other_any (n : Nat) (h : n ≤ 1) (w : World) : Calls Tryd.prog 34 #[.int .i64 (n : Int)] w fun e w' => e = .returned (.int .i64 ((1 - n : Nat) : Int)) ∧ w = w' := by
  have e1 : wrap64 (1 - (n : Int)) = ((1 - n : Nat) : Int) := by rw [show (1 - (n : Int)) = ((1 - n : Nat) : Int) by omega]; exact (wrap_nat _ (by omega)).1
  go_enter Tryd.func34, Tryd.ntmps34
  go_wp2_with (fail)
  go_ret
  refine ⟨?_, rfl⟩
  show Ending.returned (Value.int .i64 (1 - (n : Int))) = _
  rw [show (1 - (n : Int)) = ((1 - n : Nat) : Int) by omega]
theorem room_any (n : Int) (w : World) : Calls Tryd.prog 12 #[.int .i64 n] w fun e w' => e = .returned (.int .i64 (room n : Int)) ∧ w = w' := by
  unfold room
  by_cases q1 : n < 1
  · rw [if_neg (by omega)]
    go_enter Tryd.func12, Tryd.ntmps12
    go_wp2_with (fail)
    go_ret
    exact ⟨rfl, rfl⟩
  · by_cases q2 : 8 < n
    · rw [if_neg (by omega)]
      go_enter Tryd.func12, Tryd.ntmps12
      go_wp2_with (fail)
      go_ret
      exact ⟨rfl, rfl⟩
    · rw [if_pos (by omega)]
      obtain ⟨m, rfl⟩ := Int.eq_ofNat_of_zero_le (show 0 ≤ n by omega)
      obtain ⟨k, hk⟩ : ∃ k, k = 64 * m := ⟨_, rfl⟩
      have AR := Lib.hid (show ∀ X, Calls Tryd.prog 27 #[.int .i64 (m : Int)] X fun e w' => e = .returned (.int .i64 (k : Int)) ∧ X = w' from fun X => by rw [hk]; exact area_any m (by omega) X)
      have e1 : (k : Int) - 28 = ((64 * m - 28 : Nat) : Int) := by omega
      have e2 : wrap64 ((k : Int) - 28) = ((64 * m - 28 : Nat) : Int) := by rw [e1]; exact (wrap_nat _ (by omega)).1
      obtain ⟨r, hr⟩ : ∃ r, r = 64 * m - 28 := ⟨_, rfl⟩
      rw [Int.toNat_natCast]
      rw [← hr] at e1 e2 ⊢
      have e3 : wrap64 (r : Int) = (r : Int) := (wrap_nat _ (by omega)).1
      clear hr hk
      go_enter Tryd.func12, Tryd.ntmps12
      go_wp2_with (go_at_call 27; ((with_reducible refine (AR.out _).mono ?_); rintro e w1 ⟨rfl, rfl⟩))
      go_ret
      first
        | exact ⟨rfl, rfl⟩
        | exact ⟨by show Ending.returned (Value.int .i64 (wrap64 (r : Int))) = _; rw [e3], rfl⟩
theorem done_any (c : Nat) (w : World) : Calls Tryd.prog 32 #[.int .i64 (c : Int)] w fun e w' => e = stepE c ∧ w = w' := by
  have HY := Lib.hid (fun X => LV.need_yes (c : Int) X)
  have HN := Lib.hid (fun X => LV.need_no (c : Int) X)
  by_cases h : c = 0
  · subst h
    have HY0 := Lib.hid (fun X => LV.need_yes 0 X)
    show Calls Tryd.prog 32 #[.int .i64 0] w _
    go_enter Tryd.func32, Tryd.ntmps32
    go_wp2_with (go_at_call 25; ((with_reducible refine (HY0.out _).mono ?_); rintro e w1 ⟨rfl, rfl⟩))
    go_end0
    exact ⟨rfl, rfl⟩
  · have y1 : ((c : Int) == 0) = false := by simp; omega
    have e1 : stepE c = .panicked [LV.wrg (c : Int)] := by simp [stepE, h]
    rw [e1]
    clear h
    go_enter Tryd.func32, Tryd.ntmps32
    go_wp2_with (go_at_call 25; ((with_reducible refine (HN.out _).mono ?_); rintro e w1 ⟨rfl, rfl⟩))
    exact ⟨rfl, rfl, rfl⟩
theorem must_yes (v : Value) (w : World) : Calls Tryd.prog 50 #[v, .int .i64 0] w fun e w' => e = .returned v ∧ w = w' := by
  have HD := Lib.hid (show ∀ X, Calls Tryd.prog 32 #[.int .i64 0] X fun e w' => e = .returned (.tuple #[]) ∧ X = w' from fun X => done_any 0 X)
  go_enter Tryd.func50, Tryd.ntmps50
  go_wp2_with (go_at_call 32; ((with_reducible refine (HD.out _).mono ?_); rintro e w1 ⟨rfl, rfl⟩))
  go_ret
  exact ⟨rfl, rfl⟩
theorem must_no (v : Value) (c : Nat) (h : c ≠ 0) (w : World) : Calls Tryd.prog 50 #[v, .int .i64 (c : Int)] w fun e w' => e = .panicked [LV.wrg (c : Int)] ∧ w = w' := by
  have HD := Lib.hid (show ∀ X, Calls Tryd.prog 32 #[.int .i64 (c : Int)] X fun e w' => e = .panicked [LV.wrg (c : Int)] ∧ X = w' from fun X => (done_any c X).mono fun e w' ⟨h1, h2⟩ => ⟨by rw [h1]; simp [stepE, h], h2⟩)
  go_enter Tryd.func50, Tryd.ntmps50
  go_wp2_with (go_at_call 32; ((with_reducible refine (HD.out _).mono ?_); rintro e w1 ⟨rfl, rfl⟩))
  exact ⟨rfl, rfl, rfl⟩
theorem blank_any (A : Option Addr) (n c : Nat) (xs : List UInt8) (w : World) (h : Rd w A n c xs) (hn : n ≤ 65536) : Calls Tryd.prog 40 #[.slice A n c] w fun e w' => e = .returned (.bool (sameB xs (List.replicate n 0))) ∧ Below w.heap.size w w' := by
  have FI := Lib.hid (show ∀ X, Calls Tryd.prog 48 #[.int .u8 0, .int .i64 (n : Int)] X (New X.heap.size X (List.replicate n 0)) from fun X => fill_any 0 n X hn)
  have SA := Lib.hid (fun A' n' c' ys X h' h'' => same_any A A' n c n' c' xs ys X h' h'')
  have HR := Lib.hid h
  obtain ⟨zs, hz⟩ : ∃ zs, zs = List.replicate n (0 : UInt8) := ⟨_, rfl⟩
  rw [← hz] at FI ⊢
  obtain ⟨r, hr⟩ : ∃ r, r = sameB xs zs := ⟨_, rfl⟩
  have HRR := Lib.hid hr
  rw [← hr]
  clear hz h hr
  go_enter Tryd.func40, Tryd.ntmps40
  go_wp2_with (first
    | (go_at_call 48; ((with_reducible refine (FI.out _).mono ?_); rintro e w1 ⟨A1, n1, c1, rfl, o1, b1⟩; have R1 := Lib.hid (Rd.own o1); have B1 := Lib.hid b1; clear o1 b1))
    | (go_at_call 54; ((with_reducible refine (SA.out A1 n1 c1 zs w1 (HR.out.below B1.out) R1.out).mono ?_); rintro e w2 ⟨rfl, rfl⟩; rw [← HRR.out])))
  go_ret
  exact ⟨rfl, B1.out⟩
set_option maxHeartbeats 1000000 in
theorem sector_any (N : Nat) (w : World) (s g : Nat) (Z : Sl) (S : Nat → Prop) (t : Sz N w s g Z S) (f n a i : Nat) (hf : Z.first = f) (hzn : Z.n = n) (h1 : f + 2 * n ≤ 256) (ha : a < 2) (hi : i < n) (hn : n ≤ 8) :
    Calls Tryd.prog 45 #[.pointer (some ⟨s, 0, none⟩), .int .i64 (a : Int), .int .i64 (i : Int)] w fun e w' => e = .returned (.int .i64 ((f + a * n + i : Nat) : Int)) ∧ Below w.heap.size w w' := by
  have T := Lib.hid t
  have KJ := Lib.hid (show ∀ X, Below w.heap.size w X → X.cell? ⟨s, 1, none⟩ = some (.int .i64 (f : Int)) ∧ X.cell? ⟨s, 2, none⟩ = some (.int .i64 (n : Int)) from fun X hX => by
    have h := (t.grow hX).cells
    rw [← hf, ← hzn]
    exact ⟨h.2.1, h.2.2.1⟩)
  obtain ⟨c1, c2⟩ := KJ.out w (Below.refl _ _)
  obtain ⟨pn, fa, aj, x1, x2, x3, l1, l2, l3, hajv, hajl⟩ := add_nat f a n i h1 ha hi hn
  have s1 : IntKind.i64.wrap (pn : Int) = (pn : Int) := (wrap_nat pn l1).2
  have s2 : IntKind.i64.wrap (fa : Int) = (fa : Int) := (wrap_nat fa l2).2
  have s3 : IntKind.i64.wrap (aj : Int) = (aj : Int) := (wrap_nat aj l3).2
  have u1 : wrap64 (pn : Int) = (pn : Int) := (wrap_nat pn l1).1
  have u2 : wrap64 (fa : Int) = (fa : Int) := (wrap_nat fa l2).1
  have u3 : wrap64 (aj : Int) = (aj : Int) := (wrap_nat aj l3).1
  rw [← hajv]
  have BD := Lib.hid (Below.refl w.heap.size w).drew
  clear t hf hzn h1 ha hi hn hajv hajl l1 l2 l3
  go_enter Tryd.func45, Tryd.ntmps45
  go_upto_region 1 with (fail)
  clear c1 c2
  (go_region_held3 (fun X => X.cell? ⟨s, 1, none⟩ = some (.int .i64 (f : Int)) ∧ X.cell? ⟨s, 2, none⟩ = some (.int .i64 (n : Int))) (exact KJ.out _ BD.out) (fail))
  go_wp2_with (fail)
  go_ret
  exact ⟨rfl, BD.out⟩
end Go.Proofs.YtdbamdbdogdpjaaDoor.S20

/-
  What the landed Read does. No statement is proved here.
-/
namespace Go.Proofs.YtdbamdbdogdpjaaDoor.S19
set_option linter.unusedSimpArgs false
set_option linter.unusedVariables false
set_option maxRecDepth 8192
open Go.RowKit

/-- A sector reads as its bytes. -/
theorem rd_sector {w : World} {b : Nat} {T : TypeId} {s : List (List UInt8)} (hb : Bk w b T (rowsV s).toArray) (h : ∀ x ∈ s, x.length = 64) {m o : Nat} (hm : m < s.length) (ho : o = m * 64) : Rd w (some ⟨b, o, none⟩) 64 64 (s.getD m []) := by
  refine ⟨h _ (getD_mem hm), Nat.le_refl _, by simp [maxLen], fun e => by (cases e), fun _ => ⟨b, o, rfl, hb.lt, fun j hj => ?_⟩⟩
  rw [hb.cell, List.getElem?_toArray, ho, Nat.mul_comm m 64]
  exact rowsV_at h hm hj
theorem kn_now {N : Nat} {w : World} {g : Nat} {D : Dk} {F : Nat → Prop} {V : KnV} (ok : D.Ok) : (∀ b ∈ Dk.laid D.pend D.sure, b.length = 64) ∧ (Dk.laid D.pend D.sure).length = D.sure.length :=
  ⟨Dk.laid_rows _ _ (fun p hp => (ok.pend p hp).2) ok.rows, Dk.laid_len _ _⟩
set_option maxHeartbeats 4000000 in
theorem read_bel (N : Nat) (w : World) (g : Nat) (D : Dk) (F : Nat → Prop) (i : Int) (t : Kn N w g D F) : Calls Tryd.prog 51 #[.pointer (some ⟨g, 0, none⟩), .int .i64 i] w fun e w' =>
    ∃ A c, e = .returned (.tuple #[.slice A (D.readB i).length c, .int .i64 (D.readC i : Int)]) ∧ Rd w' A (D.readB i).length c (D.readB i) ∧ (∀ a, 0 < (D.readB i).length → A = some a → w.heap.size ≤ a.block) ∧ Below w.heap.size w w' := by
  have hmf : ∀ (fn : Fn) (first cap : Array Value) (w : World), (Instr.makeFunc fn first cap).run Tryd.prog w = .ok (.func fn first cap) w := fun _ _ _ _ => rfl
  have T := Lib.hid t
  obtain ⟨ok, V, hb, r⟩ := t
  have NW := Lib.hid (show N ≤ w.heap.size by have := r.gN g r.fg; omega)
  have OUT := Lib.hid (show ∀ (A : Option Addr) (c : Nat) (X : World) (n : Nat) (b : List UInt8) (cd : Nat), D.readB i = b → D.readC i = cd → Below w.heap.size w X → Rd X A n c b → (∀ a, 0 < n → A = some a → w.heap.size ≤ a.block) →
      ∃ A' c', Ending.returned (Value.tuple #[.slice A n c, .int .i64 (cd : Int)]) = .returned (.tuple #[.slice A' (D.readB i).length c', .int .i64 (D.readC i : Int)]) ∧ Rd X A' (D.readB i).length c' (D.readB i) ∧ (∀ a, 0 < (D.readB i).length → A' = some a → w.heap.size ≤ a.block) ∧ Below w.heap.size w X from by
    intro A c X n b cd e1 e2 hX hR hA
    rw [e1, e2, hR.len]
    exact ⟨A, c, rfl, hR, hA, hX⟩)
  cases hoff : D.off with
  | true =>
    rw [hoff] at hb
    have C1 := Lib.hid (fun X h => power_no g V D.sure.length D.cnt D.stop X h)
    have e1 : D.readC i = 6 := by simp [Dk.readC, hoff]
    have e2 : D.readB i = [] := by simp [Dk.readB, e1]
    have HB := Lib.hid hb
    clear r hb ok
    go_enter_defers Tryd.func51, Tryd.ntmps51
    go_wp2_with (go_at_call 42; ((with_reducible refine (C1.out _ (HB.out.alloc _)).mono ?_); rintro e w1 ⟨rfl, rfl⟩))
    refine dread_bad rfl (y := 0) (Bk.newAt _ _ _ w.heap.size rfl) rfl fun w1 hb => ?_
    exact OUT.out none 0 _ 0 [] 6 e2 e1 ((((Below.refl _ _).alloc (Nat.le_refl _) _).trans (hb.mono (by simp))).setCell (Nat.le_refl _) _) (Rd.nil_ _) (fun a h => absurd h (Nat.lt_irrefl 0))
  | false =>
    rw [hoff] at hb
    have C1 := Lib.hid (fun X h => power_ok g V D.sure.length D.cnt D.stop X h)
    by_cases hi : 0 ≤ i ∧ i < (D.sure.length : Int)
    · obtain ⟨m, rfl⟩ : ∃ m : Nat, i = (m : Int) := ⟨i.toNat, by omega⟩
      have hm : m < D.sure.length := by omega
      have C2 := Lib.hid (fun X h => sector_ok g V D.sure.length D.cnt D.stop false (m : Int) hi.1 hi.2 X h)
      have e1 : D.readC (m : Int) = 0 := by simp [Dk.readC, hoff, Dk.has, hi]
      have e2 : D.readB (m : Int) = D.atS m := by simp [Dk.readB, e1]
      obtain ⟨q1, q2⟩ := kn_now (N := N) (w := w) (g := g) (F := F) (V := V) ok
      have RS := Lib.hid (show ∀ X, Below w.heap.size w X → Rd X (some ⟨V.nb, m * 64, none⟩) 64 64 (D.atS m) from fun X hX => by
        have h := rd_sector r.now q1 (m := m) (by omega) rfl
        rw [Dk.laid_at D.pend D.sure hm] at h
        exact h.below hX)
      have CL := Lib.hid (fun A n c xs X h h2 => clone_bs A n c xs X h h2)
      obtain ⟨k, hk⟩ : ∃ k, k = D.sure.length := ⟨_, rfl⟩
      rw [← hk] at hb C1 C2 hm
      have hmi : (m : Int) < (k : Int) := by omega
      have HB := Lib.hid hb
      have G1 := Lib.hid (show Below w.heap.size w (w.alloc (.cells #[.int .i64 0] 24)) from (Below.refl _ _).alloc (Nat.le_refl _) _)
      have c1 : (w.alloc (.cells #[.int .i64 0] 24)).cell? ⟨g, 1, none⟩ = some (.slice (some ⟨V.nb, 0, none⟩) k k) := (hb.alloc _).cell 1
      clear r hb ok q1 q2 hk hi
      go_enter_defers Tryd.func51, Tryd.ntmps51
      go_wp2_with (first
        | (go_at_call 42; ((with_reducible refine (C1.out _ (HB.out.alloc _)).mono ?_); rintro e w1 ⟨rfl, rfl⟩))
        | (go_at_call 43; ((with_reducible refine (C2.out _ (HB.out.alloc _)).mono ?_); rintro e w1 ⟨rfl, rfl⟩))
        | (go_at_call 35; ((with_reducible refine (CL.out _ _ _ _ _ (RS.out _ G1.out) (by decide)).mono ?_); rintro e w5 ⟨A5, c5, rfl, o5, b5⟩; have O5 := Lib.hid o5; have B5 := Lib.hid b5; have K5 := Lib.hid ((Bk.newAt w 24 #[.int .i64 0] w.heap.size rfl).below b5 (by simp)); have k5 := cell_of_one K5.out; have f5 := free_of_one K5.out; clear o5 b5)))
      refine dread_ret rfl (y := 0) (K5.out.put 0 _) rfl ?_
      have G5 := Lib.hid (G1.out.trans (B5.out.mono G1.out.size))
      have RD := Lib.hid (Rd.own (own_keepH (w' := (w5.setCell ⟨w.heap.size, 0, none⟩ (.int .i64 0)).setCell ⟨w.heap.size, 0, none⟩ (.int .i64 0)) O5.out (fun b hb _ => by
        have h3 := (O5.out.lt b hb).1
        have h4 : (w.alloc (.cells #[.int .i64 0] 24)).heap.size = w.heap.size + 1 := by simp
        have hne : b ≠ w.heap.size := by omega
        exact (Below.heap_setCell _ ⟨w.heap.size, 0, none⟩ _ b hne).trans (Below.heap_setCell _ ⟨w.heap.size, 0, none⟩ _ b hne))))
      exact OUT.out A5 c5 _ 64 (D.atS m) 0 e2 e1 ((G5.out.setCell (Nat.le_refl _) _).setCell (Nat.le_refl _) _) RD.out (fun a h1 h2 => by
        have h3 := (O5.out.lt a.block (by rw [h2]; rfl)).1
        have h4 : (w.alloc (.cells #[.int .i64 0] 24)).heap.size = w.heap.size + 1 := by simp
        omega)
    · have C2 := Lib.hid (fun X h => sector_no g V D.sure.length D.cnt D.stop false i hi X h)
      have e1 : D.readC i = 1 := by simp [Dk.readC, hoff, Dk.has, hi]
      have e2 : D.readB i = [] := by simp [Dk.readB, e1]
      have HB := Lib.hid hb
      clear r hb ok hi
      go_enter_defers Tryd.func51, Tryd.ntmps51
      go_wp2_with (first
        | (go_at_call 42; ((with_reducible refine (C1.out _ (HB.out.alloc _)).mono ?_); rintro e w1 ⟨rfl, rfl⟩))
        | (go_at_call 43; ((with_reducible refine (C2.out _ (HB.out.alloc _)).mono ?_); rintro e w1 ⟨rfl, rfl⟩)))
      refine dread_bad rfl (y := 0) (Bk.newAt _ _ _ w.heap.size rfl) rfl fun w1 hb => ?_
      exact OUT.out none 0 _ 0 [] 1 e2 e1 ((((Below.refl _ _).alloc (Nat.le_refl _) _).trans (hb.mono (by simp))).setCell (Nat.le_refl _) _) (Rd.nil_ _) (fun a h => absurd h (Nat.lt_irrefl 0))
theorem read_any (N : Nat) (w : World) (g : Nat) (D : Dk) (F : Nat → Prop) (i : Int) (t : Kn N w g D F) : Calls Tryd.prog 51 #[.pointer (some ⟨g, 0, none⟩), .int .i64 i] w fun e w' =>
    ∃ A c F', e = .returned (.tuple #[.slice A (D.readB i).length c, .int .i64 (D.readC i : Int)]) ∧ Rd w' A (D.readB i).length c (D.readB i) ∧ (∀ a, 0 < (D.readB i).length → A = some a → w.heap.size ≤ a.block ∧ ¬ F' a.block) ∧ Kn N w' g D F' ∧ (∀ b, F' b → F b ∨ w.heap.size ≤ b) ∧ Mv N F w w' := by
  have NW : N ≤ w.heap.size := by
    obtain ⟨ok, V, hb, r⟩ := t
    have := r.gN g r.fg
    omega
  refine (read_bel N w g D F i t).mono fun e w' ⟨A, c, h1, h2, h3, h4⟩ => ⟨A, c, F, h1, h2, fun a p q => ⟨h3 a p q, fun h => ?_⟩, t.below h4, fun b h => .inl h, Mv.of NW h4⟩
  have := h3 a p q
  have := (t.lt _ h).2
  omega
end Go.Proofs.YtdbamdbdogdpjaaDoor.S19
