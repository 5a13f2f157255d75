/-
  Texts put together: DsA, DsB. No statement is proved here.
-/
import Derived.Test.YtnoflgkjdibblaaGreatDoorWa27
import Derived.Test.YtnoflgkjdibblaaGreatDoorWa09
import Derived.Test.YtnoflgkjdibblaaGreatDoorWa04
import Derived.Deep.MidRow
import Derived.Great.BuildSlice

/-
  What the landed Write does. No statement is proved here.
-/
namespace Go.Proofs.YtnoflgkjdibblaaGreatDoor.S19
set_option linter.unusedSimpArgs false
set_option linter.unusedVariables false
set_option maxRecDepth 8192
open Go.RowKit

theorem run_arr (a : Addr) (c : Nat) (W : World) : (Instr.arrayAt 105 (.slice (some a) 64 c)).run Tryz.prog W = .ok (.pointer (some a)) W := by
  simp [Instr.arrayAt, run_underlying Tryz.underlying105]
theorem rd_range {w : World} {b o c : Nat} {xs : List UInt8} (h : Rd w (some ⟨b, o, none⟩) 64 c xs) : w.rangeAt b o (bv xs) := by
  intro j v hv
  have hl := h.len
  have hj : j < xs.length := by
    rcases Nat.lt_or_ge j xs.length with h | h
    · exact h
    · rw [List.getElem?_eq_none (by simpa [bv_length] using h)] at hv; cases hv
  obtain ⟨b', o', e, _, hc⟩ := h.at_ (by omega)
  injection e with e
  injection e with e1 e2
  subst e1 e2
  rw [bv_at xs j hj] at hv
  rw [hc j (by omega), ← hv]
  simp [List.getD, hj]
/-- A row of 64 bytes is read as a sector. -/
theorem load_sector {w : World} {b o c : Nat} {xs : List UInt8} (h : Rd w (some ⟨b, o, none⟩) 64 c xs) : (Instr.loadAt 105 (.pointer (some ⟨b, o, none⟩))).run Tryz.prog w = .ok (.agg (bv xs).toArray) w :=
  run_loadAt_mid w b o 105 (bv xs) _ (rd_range h) Tryz.underlying105 rfl (by rw [bv_length, h.len]; exact Tryz.sizeSec)
/-- A sector is written over. -/
theorem store_sector {w : World} {d : Nat} {T : TypeId} {s : List (List UInt8)} {m : Nat} {xs : List UInt8} (hd : Bk w d T (rowsV s).toArray) (hs : ∀ x ∈ s, x.length = 64) (hm : m < s.length) (hx : xs.length = 64) :
    (Instr.storeAt 105 (.pointer (some ⟨d, m * 64, none⟩)) (.agg (bv xs).toArray)).run Tryz.prog w = .ok () (w.setCells d (m * 64) (bv xs)) ∧ Bk (w.setCells d (m * 64) (bv xs)) d T (rowsV (s.set m xs)).toArray := by
  have hl := rowsV_len hs
  constructor
  · have h := run_storeVar_mid (P := Tryz.prog) w d (m * 64) 105 (bv xs).toArray (hd.there (m * 64) _ (by simp [bv_length]; rw [hl]; omega)) (by rw [List.size_toArray, bv_length, hx]; exact Tryz.sizeSec) (all_oneCell_toArray (bv_one xs))
    simp [Instr.storeAt, Instr.sureAddr, h]
  · have e := rowsV_split hm
    rw [e] at hd
    have h := Bk.puts (bv xs) (rowsV (s.take m)) (bv (s.getD m [])) (rowsV (s.drop (m + 1))) w hd (by rw [bv_length, bv_length, hx]; exact hs _ (getD_mem hm))
    rw [take_rows hs m (Nat.le_of_lt hm), Nat.mul_comm 64 m] at h
    rw [rowsV_set hm]
    exact h
theorem cells_heap (b : Nat) {i : Nat} (h : i ≠ b) : ∀ (vs : List Value) (o : Nat) (w : World), (w.setCells b o vs).heap[i]? = w.heap[i]?
  | [], o, w => rfl
  | v :: vs, o, w => by
    rw [World.setCells, cells_heap b h vs]
    exact Below.heap_setCell w ⟨b, o, none⟩ v i h
theorem cells_below {N : Nat} (b : Nat) (h : N ≤ b) : ∀ (vs : List Value) (o : Nat) (w : World), Below N w (w.setCells b o vs)
  | [], o, w => Below.refl _ _
  | v :: vs, o, w => by
    rw [World.setCells]
    exact ((Below.refl _ _).setCell (show N ≤ (⟨b, o, none⟩ : Addr).block from h) v).trans (cells_below b h vs _ _)
theorem Mv.cells {N : Nat} {F : Nat → Prop} {w : World} {b : Nat} (hF : F b) (hN : N ≤ b) (o : Nat) (vs : List Value) : Mv N F w (w.setCells b o vs) :=
  ⟨cells_below b hN vs o w, fun k _ h => cells_heap b (fun e => h (by rw [e]; exact hF)) vs o w⟩
theorem put_list (off : Nat) : ∀ (l : List Value) (k : Nat) (cells : Array Value), off + k + l.length ≤ cells.size → (l.zipIdx k).foldl (fun cs (p : Value × Nat) => cs.setIfInBounds (off + p.2) p.1) cells = (cells.toList.take (off + k) ++ l ++ cells.toList.drop (off + k + l.length)).toArray
  | [], k, cells, _ => by simp
  | v :: l, k, cells, h => by
    rw [List.zipIdx_cons, List.foldl_cons]
    have ih := put_list off l (k + 1) (cells.setIfInBounds (off + k) v) (by simp at h ⊢; omega)
    rw [ih]
    congr 1
    have e := list_seg_step cells.toList (off + k) v l (by simp at h ⊢; omega)
    simpa [Array.toList_setIfInBounds, Nat.add_assoc] using e
theorem fill_agg (place : Nat → Option (Nat × Nat)) (cells : Array Value) (i off n : Nat) (l : List Value) (hp : place i = some (off, n)) (hl : l.length = n) (hc : off + n ≤ cells.size) (rest : List (Nat × Value)) :
    Instr.fill place cells ((i, .agg l.toArray) :: rest) = Instr.fill place (cells.toList.take off ++ l ++ cells.toList.drop (off + n)).toArray rest := by
  have h := put_list off l 0 cells (by omega)
  rw [Instr.fill, hp]
  have h1 : ¬ ((Value.agg l.toArray).cells.size ≠ n || (off + (Value.agg l.toArray).cells.size > cells.size)) = true := by
    simp [Value.cells, hl]; omega
  simp only [h1]
  simp only [Value.cells]
  rw [← hl]
  simp at h ⊢
  rw [h]
theorem Tryz.infoWr : (Tryz.prog.info? 107).map (fun i => (i.zero, i.size, i.bytes)) = some (some (.agg (#[.int .i64 0] ++ Array.replicate 64 (.int .u8 0))), 65, 72) := by kernel_rfl
theorem fill_int (place : Nat → Option (Nat × Nat)) (cells : Array Value) (i off : Nat) (k : IntKind) (z : Int) (hp : place i = some (off, 1)) (hc : off + 1 ≤ cells.size) (rest : List (Nat × Value)) :
    Instr.fill place cells ((i, .int k z) :: rest) = Instr.fill place (cells.setIfInBounds off (.int k z)) rest := by
  rw [Instr.fill, hp]
  have h1 : ¬ ((Value.int k z).cells.size ≠ 1 || (off + (Value.int k z).cells.size > cells.size)) = true := by
    simp [Value.cells]; omega
  simp only [h1]
  simp [Value.cells]
theorem built_struct {P : Program} {t : TypeId} {it : TypeInfo} {fields : Array Field} {z : Value} {places : List (Nat × Nat)} (h1 : P.info? t = some it) (h2 : P.underlying t = some (.struct fields)) (h3 : it.zero = some z)
    (h4 : fields.toList.mapM (fun f => (P.info? f.type).map fun i => (f.offset, i.size)) = some places) (parts : List (Nat × Value)) : P.built t parts = Instr.fill (places.toArray[·]?) z.cells parts := by
  simp [Program.built, h1, h2, h3, h4]
/-- A write that is pending, as a literal. -/
theorem run_wr (m : Int) (CS : List Value) (h : CS.length = 64) (W : World) : (Instr.build 107 #[(0, .int .i64 m), (1, .agg CS.toArray)]).run Tryz.prog W = .ok (.agg (Value.int .i64 m :: CS).toArray) W := by
  obtain ⟨i0, hi, hz0, hz1, hz2⟩ := info_parts Tryz.infoWr
  refine run_build W _ _ _ ?_
  have h0 := built_struct (P := Tryz.prog) (places := [(0, 1), (1, 64)]) hi Tryz.underlying107 hz0 (by kernel_rfl) [(0, .int .i64 m), (1, .agg CS.toArray)]
  refine h0.trans ?_
  rw [fill_int _ _ 0 0 .i64 m rfl (by simp [Value.cells]), fill_agg _ _ 1 1 64 CS rfl h (by simp [Value.cells]) [], Instr.fill]
  simp [Value.cells]
theorem run_wrs (m : Int) (CS : List Value) (h : CS.length = 64) (W : World) : (Instr.buildSlice 77 1 #[(0, .agg (Value.int .i64 m :: CS).toArray)]).run Tryz.prog W =
    .ok (.slice (some ⟨W.heap.size, 0, none⟩) 1 1) (W.alloc (.cells (Value.int .i64 m :: CS).toArray 107)) := by
  obtain ⟨i0, hi, hz0, hz1, hz2⟩ := info_parts Tryz.infoWr
  refine run_buildSlice W _ _ 1 _ _ i0 _ Tryz.underlying77 hi hz0 (by rw [hz1]; decide) (by rw [hz1]; decide) ?_
  rw [hz1]
  rw [fill_agg _ _ 0 0 65 (Value.int .i64 m :: CS) (by simp) (by simp [h]) (by simp) [], Instr.fill]
  simp
theorem map_parts {a : Act} {parts : Array (Nat × Operand)} {l : List (Nat × Value)} (h : parts.toList.map (fun p => (p.1, a.eval p.2)) = l) : (parts.map fun (i, x) => (i, a.eval x)) = l.toArray := by
  apply Array.ext'
  rw [Array.toList_map, ← h]
theorem exec_build {P : Program} {w : World} {a : Act} {o : Oper} {t : TypeId} {parts : Array (Nat × Operand)} {v : Value} (l : List (Nat × Value)) (ho : o.op = .build t parts) (hp : parts.toList.map (fun p => (p.1, a.eval p.2)) = l) (h : (Instr.build t l.toArray).run P w = .ok v w) : (execOp a.eval o).run P w = .ok (.value v) w := by
  unfold execOp
  simp only [ho, map_parts hp, Sem.run_bind, h, Result.andThen, Sem.run_pure]
theorem exec_bs {P : Program} {w w' : World} {a : Act} {o : Oper} {t : TypeId} {n : Nat} {parts : Array (Nat × Operand)} {v : Value} (l : List (Nat × Value)) (ho : o.op = .buildSlice t n parts) (hp : parts.toList.map (fun p => (p.1, a.eval p.2)) = l) (h : (Instr.buildSlice t n l.toArray).run P w = .ok v w') : (execOp a.eval o).run P w = .ok (.value v) w' := by
  unfold execOp
  simp only [ho, map_parts hp, Sem.run_bind, h, Result.andThen, Sem.run_pure]
/-- append of one write to what is pending, at a step. -/
theorem step_append_wr {w : World} {ops : Array Oper} {o : Oper} {a : Act} {K : Act → World → Prop} {Q : Exit → Act → World → Prop} {E : Prop} (hw : Region.wanted o (yielded ops a.tmps) = true) (s x : Operand)
    (ho : o.op = .call { callee := .builtin .append, args := #[s, x], argTypes := #[77, 77] })
    (base : Nat) (v : Value) (p : List (Nat × List UInt8)) (hs : a.eval s = v) (hown : w.ownsRow base 107 65 v p.length (pendV p))
    (bl m : Nat) (b : List UInt8) (hx : a.eval x = .slice (some ⟨bl, 0, none⟩) 1 1) (hr : Bk w bl 107 (Value.int .i64 (m : Int) :: bv b).toArray) (hl : b.length = 64) (hb : p.length ≤ 1099511627776) (hbase : base ≤ w.heap.size)
    (h : ∀ v' w', w'.ownsRow base 107 65 v' (p ++ [(m, b)]).length (pendV (p ++ [(m, b)])) → w.grownBy w' v.ownBlock → (v'.ownBlock = v.ownBlock ∨ v'.ownBlock = some w.heap.size) → K (a.put o.dst v') w') :
    if Region.wanted o (yielded ops a.tmps) = true then Oper.wp Tryz.prog o a w K Q else E := by
  obtain ⟨i0, hi, hz0, hz1, hz2⟩ := info_parts Tryz.infoWr
  rw [if_pos hw]
  obtain ⟨v', w', hrun, h2, h3, _, h5⟩ := run_append_own_at (P := Tryz.prog) w base 77 o.type 107 i0 _ 65 72 Tryz.underlying77 hi hz0 hz1 hz2 rfl (by omega) v p.length (pendV p) hown ⟨bl, 0, none⟩ 1 1 (Value.int .i64 (m : Int) :: bv b)
      (by simp [bv_length, hl]) (fun j u hj => by
        have e : (⟨bl, 0, none⟩ : Addr).add j = ⟨bl, 0 + j, none⟩ := by unfold Addr.add; split <;> simp_all
        rw [e, Nat.zero_add, hr.cell, List.getElem?_toArray]
        exact hj) (fun u hu => by
        rcases List.mem_cons.1 hu with rfl | hu
        · rfl
        · exact bv_one b u hu) (by simp only [maxLen]; omega) (by omega) hbase
  unfold Oper.wp
  simp [execOp, ho, resolve, invoke, builtin, hs, hx, hrun, Result.andThen]
  exact h v' w' (by rw [List.length_append, List.length_singleton, pendV_snoc]; exact h2) h3 h5
/-- One more is pending. -/
theorem In.appended {N : Nat} {w5 w7 : World} {g m : Nat} {b : List UInt8} {sure now : List (List UInt8)} {pend : List (Nat × List UInt8)} {fails : List Int} {F : Nat → Prop} {V : KnV} {v7 : Value} {o : Obj} (r : In N w5 g sure now pend fails F V)
    (own : w7.ownsRow N 107 65 v7 (pend ++ [(m, b)]).length (pendV (pend ++ [(m, b)]))) (gr : (w5.drew.alloc o).grownBy w7 V.vP.ownBlock) (nb : v7.ownBlock = V.vP.ownBlock ∨ v7.ownBlock = some (w5.drew.alloc o).heap.size) :
    In N w7 g sure now (pend ++ [(m, b)]) fails (fun x => F x ∨ v7.ownBlock = some x) { V with vP := v7 } ∧ Mv N F w5 w7 ∧ (∀ x, v7.ownBlock = some x → F x ∨ w5.heap.size < x) := by
  have h1 : (w5.drew.alloc o).heap.size = w5.heap.size + 1 := by simp
  have hs := gr.size
  have hk : ∀ x, x < w5.heap.size → V.vP.ownBlock ≠ some x → w7.heap[x]? = w5.heap[x]? := fun x hx hne => (gr.block x (by omega) (fun e => hne e.symm)).trans (Below.heap_alloc w5.drew o x hx)
  have hnew : ∀ x, v7.ownBlock = some x → F x ∨ w5.heap.size < x := fun x hx => by
    rcases nb with e | e
    · exact .inl (r.fp x (by rw [← e]; exact hx))
    · rw [hx, h1] at e
      injection e with e
      exact .inr (by omega)
  have hF : ∀ x, F x → v7.ownBlock = some x → V.vP.ownBlock = some x := fun x hx h => by
    rcases nb with e | e
    · rw [← e]; exact h
    · rw [h, h1] at e
      injection e with e
      have := (r.gN x hx).2
      omega
  refine ⟨⟨(hk _ r.sure.lt fun e => (r.dP _ e).2.1 rfl).trans r.sure, (hk _ r.now.lt fun e => (r.dP _ e).2.2 rfl).trans r.now, own, r.fl.keep (by omega) fun a p1 p2 p3 => hk _ p3 (r.dF a p1 p2).2.2.2, r.few, r.mem, r.srt, .inl r.fg, .inl r.fs, .inl r.fnn, fun x hx => .inr hx, fun a p1 p2 => .inl (r.ff a p1 p2), fun x hx => ?_, r.d1, r.d2, r.d3, fun x hx => ?_, fun a p1 p2 => ⟨(r.dF a p1 p2).1, (r.dF a p1 p2).2.1, (r.dF a p1 p2).2.2.1, fun e => (r.dF a p1 p2).2.2.2 (hF _ (r.ff a p1 p2) e)⟩⟩, ⟨⟨gr.os, gr.tape, gr.output, by omega, fun x hx => ?_⟩, fun x hx hnF => hk x hx fun e => hnF (r.fp x e)⟩, hnew⟩
  · rcases hx with hx | hx
    · exact ⟨(r.gN x hx).1, by have := (r.gN x hx).2; omega⟩
    · exact own.lt x hx
  · rcases nb with e | e
    · exact r.dP x (by rw [← e]; exact hx)
    · rw [hx, h1] at e
      injection e with e
      have a1 := (r.gN _ r.fg).2
      have a2 := (r.gN _ r.fs).2
      have a3 := (r.gN _ r.fnn).2
      exact ⟨show x ≠ g by omega, show x ≠ V.sb by omega, show x ≠ V.nb by omega⟩
  · have hg := (r.gN _ r.fg)
    exact hk x (by omega) fun e => by have := (r.gN x (r.fp x e)).1; omega
set_option maxHeartbeats 8000000 in
theorem write_any (N : Nat) (w : World) (g : Nat) (D : Dk) (F : Nat → Prop) (i : Int) (A : Option Addr) (n c : Nat) (b : List UInt8) (t : Kn N w g D F) (hr : Rd w A n c b) (hap : ∀ a, 0 < n → A = some a → ¬ F a.block) (hc : D.cnt < 1099511627776) :
    Calls Tryz.prog 85 #[.pointer (some ⟨g, 0, none⟩), .int .i64 i, .slice A n c] w (Post Kn N F g w (D.write i b) (.int .i64 (D.writeC i b : Int))) := by
  have hmf : ∀ (fn : Fn) (first cap : Array Value) (w : World), (Instr.makeFunc fn first cap).run Tryz.prog w = .ok (.func fn first cap) w := fun _ _ _ _ => rfl
  have T := Lib.hid t
  have NW := Lib.hid (show N ≤ w.heap.size by obtain ⟨ok, V, hb, r⟩ := t; have := r.gN g r.fg; omega)
  have NF := Lib.hid (show ¬ F w.heap.size from fun h => Nat.lt_irrefl _ (t.lt _ h).2)
  have K1 := Lib.hid (Bk.newAt w 29 #[.int .i64 0] w.heap.size rfl)
  have G1 := Lib.hid (show Below w.heap.size w (w.alloc (.cells #[.int .i64 0] 29)) from (Below.refl _ _).alloc (Nat.le_refl _) _)
  have BAD := Lib.hid (show ∀ w1 (cd : Int), Below (w.alloc (.cells #[.int .i64 0] 29)).heap.size (w.alloc (.cells #[.int .i64 0] 29)) w1 → Post Kn N F g w D (.int .i64 cd) (.returned (.int .i64 cd)) (w1.setCell ⟨w.heap.size, 0, none⟩ (.int .i64 cd)) from fun w1 cd hb => by
    have G := ((G1.out).trans (hb.mono G1.out.size)).setCell (p := ⟨w.heap.size, 0, none⟩) (Nat.le_refl _) (.int .i64 cd)
    exact ⟨rfl, F, T.out.below G, fun b h => .inl h, Mv.of NW.out G⟩)
  cases hoff : D.off with
  | true =>
    obtain ⟨ok, V, hb, r⟩ := t
    rw [hoff] at hb
    have C1 := Lib.hid (fun X h => power_no g V D.sure.length D.cnt D.stop X h)
    have HB := Lib.hid hb
    rw [show D.writeC i b = 6 by simp [Dk.writeC, hoff], show D.write i b = D by simp [Dk.write, hoff]]
    clear r hb ok
    go_enter_defers Tryz.func85, Tryz.ntmps85
    go_wp2_with (go_at_call 89; ((with_reducible refine (C1.out _ (HB.out.alloc _)).mono ?_); rintro e w1 ⟨rfl, rfl⟩))
    exact dwrite_bad (y := 0) K1.out rfl fun w1 hb => BAD.out w1 6 hb
  | false =>
    have C2 := Lib.hid (fun X h => step_any N X g D F h hoff hc)
    obtain ⟨ok, V, hb, r⟩ := t
    rw [hoff] at hb
    have C1 := Lib.hid (fun X h => power_ok g V D.sure.length D.cnt D.stop X h)
    have HB := Lib.hid hb
    by_cases hi : D.has i
    · have C3 := Lib.hid (fun X h => sector_ok g V D.sure.length D.cnt D.stop false i hi.1 hi.2 X h)
      by_cases h64 : n = 64
      · subst h64
        have C4 := Lib.hid (fun X => LV.need_yes 1 X)
        have hl := hr.len
        have e0 : D.write i b = if D.stepC = 0 then { D.step with pend := D.pend ++ [(i.toNat, b)] } else D.step := by simp [Dk.write, hoff, hi, hl]
        have e9 : D.writeC i b = D.stepC := by simp [Dk.writeC, hoff, hi, hl]
        rw [e9]
        by_cases h0 : D.stepC = 0
        · rw [if_pos h0] at e0
          have OKW := Lib.hid (show ({ D.step with pend := D.pend ++ [(i.toNat, b)] } : Dk).Ok by rw [← e0]; exact Dk.write_ok ok i b)
          have e1 : stepE D.stepC = .returned (.tuple #[]) := by simp [stepE, h0]
          rw [e1] at C2
          rw [h0, e0]
          obtain ⟨m, rfl⟩ : ∃ m : Nat, i = (m : Int) := ⟨i.toNat, by have := hi.1; omega⟩
          have hm : m < D.sure.length := by have := hi.2; omega
          obtain ⟨bb, bo, rfl, hbb, _⟩ := hr.at_ (by omega)
          have HR := Lib.hid hr
          have HAP := Lib.hid (hap ⟨bb, bo, none⟩ (by omega) rfl)
          have HM := Lib.hid hm
          clear e0 e1 h0 e9 hb r ok hi hr hap hm
          go_enter_defers Tryz.func85, Tryz.ntmps85
          go_upto_region 6 with (first
            | (go_at_call 89; ((with_reducible refine (C1.out _ (HB.out.alloc _)).mono ?_); rintro e w1 ⟨rfl, rfl⟩))
            | (go_at_call 108; ((with_reducible refine (C3.out _ (HB.out.alloc _)).mono ?_); rintro e w1 ⟨rfl, rfl⟩))
            | (go_at_call 30; ((with_reducible refine (C4.out _).mono ?_); rintro e w1 ⟨rfl, rfl⟩))
            | (go_at_call 90; ((with_reducible refine (C2.out _ (T.out.below G1.out)).mono ?_); rintro e w4 ⟨rfl, t4, m4⟩; have T4 := Lib.hid t4; have M4 := Lib.hid m4; clear t4 m4)))
          obtain ⟨ok4, V4, hb4, r4⟩ := T4.out
          obtain ⟨k, hk⟩ : ∃ k, k = D.step.sure.length := ⟨_, rfl⟩
          rw [← hk] at hb4
          have HK := Lib.hid hk
          have hmk : (m : Int) < (k : Int) := by rw [hk, Dk.step_sure]; have := HM.out; omega
          have HB4 := Lib.hid hb4
          obtain ⟨q1, q2⟩ := kn_now (N := N) (w := w) (g := g) (F := F) (V := V4) ok4
          rw [Dk.step_pend, Dk.step_sure] at q1 q2 r4
          have R4b := Lib.hid (show Rd w4 (some ⟨bb, bo, none⟩) 64 c b from M4.out.rd (HR.out.below G1.out) (fun a _ e => by cases e; exact HAP.out))
          obtain ⟨CS, hCS⟩ : ∃ CS, CS = bv b := ⟨_, rfl⟩
          have f1 := fun W => run_arr ⟨bb, bo, none⟩ c W
          have g1 : Tryz.prog.underlying 105 = some _ := Tryz.underlying105
          have g2 : (Tryz.prog.info? 105).map (·.size) = some CS.length := by rw [hCS, bv_length, HR.out.len]; exact Tryz.sizeSec
          have g3 : CS.length = 64 := by rw [hCS, bv_length, HR.out.len]
          have g4 : ∀ v ∈ CS, v.oneCell' = true := by rw [hCS]; exact bv_one b
          have hmm : m < (Dk.laid D.pend D.sure).length := by rw [Dk.laid_len]; exact HM.out
          have g5 : w4.drew.there V4.nb (m * 64) 64 := r4.now.drew.there (m * 64) 64 (by simp; rw [rowsV_len q1]; omega)
          obtain ⟨f3, f4⟩ := store_sector (w := w4.drew) (m := m) (xs := b) r4.now.drew q1 hmm HR.out.len
          rw [← hCS] at f4
          have RG := Lib.hid (show w4.drew.rangeAt bb bo CS by rw [hCS]; exact rd_range R4b.out.drew)
          have F4 := Lib.hid f4
          have HCS := Lib.hid hCS
          have R4 := Lib.hid r4
          clear hk hCS f3 f4 r4 hb4 q1 q2 ok4 hmm
          have hnbb : bb ≠ V4.nb := fun e => HAP.out (by rw [e]; exact R4.out.fnn)
          have RG5 := Lib.hid (show (w4.drew.setCells V4.nb (m * 64) CS).rangeAt bb bo CS from World.rangeAt_setCells_apart RG.out V4.nb (m * 64) CS (.inl hnbb))
          have HB5 := Lib.hid (show Bk (w4.drew.setCells V4.nb (m * 64) CS) g 79 _ from (cells_heap V4.nb R4.out.d2 CS (m * 64) w4.drew).trans HB4.out.drew)
          (go_region_held3 (fun X => X.cell? ⟨g, 1, none⟩ = some (.slice (some ⟨V4.nb, 0, none⟩) k k) ∧ X.rangeAt bb bo CS) (first
            | exact ⟨HB4.out.drew.cell 1, RG.out⟩
            | exact ⟨HB5.out.cell 1, RG5.out⟩) (fail))
          have N4 := Lib.hid (show N ≤ w4.heap.size by have := R4.out.gN g R4.out.fg; omega)
          have R5 := Lib.hid (show In N (w4.drew.setCells V4.nb (m * 64) CS) g D.sure ((Dk.laid D.pend D.sure).set m b) D.pend D.step.fails F V4 from
            ⟨(cells_heap V4.nb R4.out.d3 CS (m * 64) w4.drew).trans R4.out.sure, F4.out, own_keepH R4.out.pend (fun x hx _ => cells_heap V4.nb (R4.out.dP x hx).2.2 CS (m * 64) w4.drew), R4.out.fl.keep (cells_below (N := 0) V4.nb (Nat.zero_le _) CS (m * 64) w4.drew).size (fun a h1 h2 _ => cells_heap V4.nb (R4.out.dF a h1 h2).2.2.1 CS (m * 64) w4.drew),
              R4.out.few, R4.out.mem, R4.out.srt, R4.out.fg, R4.out.fs, R4.out.fnn, R4.out.fp, R4.out.ff, fun x hx => ⟨(R4.out.gN x hx).1, Nat.lt_of_lt_of_le (R4.out.gN x hx).2 (cells_below (N := 0) V4.nb (Nat.zero_le _) CS (m * 64) w4.drew).size⟩, R4.out.d1, R4.out.d2, R4.out.d3, R4.out.dP, R4.out.dF⟩)
          have M5 := Lib.hid (show Mv N F (w.alloc (.cells #[.int .i64 0] 29)) (w4.drew.setCells V4.nb (m * 64) CS) from (M4.out.trans (Mv.of (F := F) N4.out (Below.refl _ _).drew) fun b h => .inl h).trans (Mv.cells R4.out.fnn (R4.out.gN _ R4.out.fnn).1 (m * 64) CS) fun b h => .inl h)
          generalize w4.drew.setCells V4.nb (m * 64) CS = w5 at *
          clear g5 hmk RG F4 HB4 R4 R4b T4 M4
          go_upto_region 7 with (fail)
          have f7 := fun W => run_wr (m : Int) CS g3 W
          have f8 := fun W => run_wrs (m : Int) CS g3 W
          obtain ⟨CW, hCW⟩ : ∃ CW, CW = (Value.int .i64 (m : Int) :: CS).toArray := ⟨_, rfl⟩
          rw [← hCW] at f7 f8
          have HCW := Lib.hid hCW
          clear hCW
          have BBL := Lib.hid (show bb < w5.heap.size by have h1 := M5.out.size; have h2 : (w.alloc (.cells #[.int .i64 0] 29)).heap.size = w.heap.size + 1 := (by simp); omega)
          have BBP := Lib.hid (show V4.vP.ownBlock ≠ some bb from fun e => HAP.out (R5.out.fp _ e))
          have BBG := Lib.hid (show bb ≠ g from fun e => HAP.out (by rw [e]; exact R5.out.fg))
          have GL := Lib.hid (R5.out.gN g R5.out.fg)
          have S6 := Lib.hid (show (w5.drew.alloc (.cells CW 107)).rangeAt bb bo CS from fun j v hv => (World.cell?_of_block (a := ⟨bb, bo + j, none⟩) (Below.heap_alloc w5.drew _ bb BBL.out)).trans (RG5.out j v hv))
          have W6 := Lib.hid (show Bk (w5.drew.alloc (.cells CW 107)) w5.heap.size 107 (Value.int .i64 (m : Int) :: bv b).toArray by rw [HCW.out, HCS.out]; exact Bk.newAt _ _ _ _ rfl)
          have OP6 := Lib.hid (show (w5.drew.alloc (.cells CW 107)).ownsRow N 107 65 V4.vP D.pend.length (pendV D.pend) from own_below R5.out.pend ((Below.refl _ _).drew.alloc (by simp) _))
          have FEW := Lib.hid (show D.pend.length ≤ 1099511627776 by have := T.out.ok.few; omega)
          have NB := Lib.hid (show N ≤ (w5.drew.alloc (.cells CW 107)).heap.size by simp; have := GL.out; omega)
          have KEEP := Lib.hid (show ∀ w7 x, (w5.drew.alloc (.cells CW 107)).grownBy w7 V4.vP.ownBlock → x < w5.heap.size → V4.vP.ownBlock ≠ some x → w7.heap[x]? = w5.heap[x]? from fun w7 x hg hx hne => (hg.block x (by simp; omega) (fun e => hne e.symm)).trans (Below.heap_alloc w5.drew _ x hx))
          have AFT := Lib.hid (show ∀ v7 w7, w7.ownsRow N 107 65 v7 (D.pend ++ [(m, b)]).length (pendV (D.pend ++ [(m, b)])) → (w5.drew.alloc (.cells CW 107)).grownBy w7 V4.vP.ownBlock → (v7.ownBlock = V4.vP.ownBlock ∨ v7.ownBlock = some (w5.drew.alloc (.cells CW 107)).heap.size) → w7.rangeAt bb bo CS from fun v7 w7 _ hg _ j v hv => (World.cell?_of_block (a := ⟨bb, bo + j, none⟩) (KEEP.out w7 bb hg BBL.out BBP.out)).trans (RG5.out j v hv))
          have TW := Lib.hid (show ∀ v7 w7, w7.ownsRow N 107 65 v7 (D.pend ++ [(m, b)]).length (pendV (D.pend ++ [(m, b)])) → (w5.drew.alloc (.cells CW 107)).grownBy w7 V4.vP.ownBlock → (v7.ownBlock = V4.vP.ownBlock ∨ v7.ownBlock = some (w5.drew.alloc (.cells CW 107)).heap.size) → Bk w7 g 79 (knA V4 k D.step.cnt D.step.stop D.step.off) from fun v7 w7 _ hg _ => (KEEP.out w7 g hg GL.out.2 (fun e => (R5.out.dP g e).1 rfl)).trans HB5.out)
          have AF8 := Lib.hid (show ∀ v7 w7, (w5.drew.alloc (.cells CW 107)).grownBy w7 V4.vP.ownBlock → (v7.ownBlock = V4.vP.ownBlock ∨ v7.ownBlock = some (w5.drew.alloc (.cells CW 107)).heap.size) → (w7.setCell ⟨g, 2, none⟩ v7).rangeAt bb bo CS from fun v7 w7 hg _ j v hv => (World.cell?_of_block (a := ⟨bb, bo + j, none⟩) ((Below.heap_setCell w7 ⟨g, 2, none⟩ v7 bb BBG.out).trans (KEEP.out w7 bb hg BBL.out BBP.out))).trans (RG5.out j v hv))
          have FIN := Lib.hid (show ∀ v7 w7, Bk w7 g 79 (knA V4 k D.step.cnt D.step.stop D.step.off) → In N w7 g D.sure ((Dk.laid D.pend D.sure).set m b) (D.pend ++ [(m, b)]) D.step.fails (fun x => F x ∨ v7.ownBlock = some x) { V4 with vP := v7 } → Mv N F w5 w7 → (∀ x, v7.ownBlock = some x → F x ∨ w5.heap.size < x) →
              Bk (w7.setCell ⟨g, 2, none⟩ v7) w.heap.size 29 #[.int .i64 0] ∧ Post Kn N F g w { D.step with pend := D.pend ++ [((m : Int).toNat, b)] } (.int .i64 0) (.returned (.int .i64 0)) ((w7.setCell ⟨g, 2, none⟩ v7).setCell ⟨w.heap.size, 0, none⟩ (.int .i64 0)) from fun v7 w7 hb hi hm hx => by
            have m8 : Mv N F (w.alloc (.cells #[.int .i64 0] 29)) (w7.setCell ⟨g, 2, none⟩ v7) := (M5.out.trans hm fun b h => .inl h).trans (Mv.pokeK R5.out.fg GL.out.1 2 _) fun b h => .inl h
            refine ⟨m8.bk K1.out NF.out, post_fin NW.out (F' := fun x => F x ∨ v7.ownBlock = some x) ⟨OKW.out, { V4 with vP := v7 }, ?_, ?_⟩ (fun x h => ?_) m8 NF.out (Below.refl _ _)⟩
            · have h := hb.put 2 v7
              rw [HK.out] at h
              exact h
            · have h := hi.poke 2 v7
              rw [← laid_sn1] at h
              show In N _ g D.step.sure (Dk.laid (D.pend ++ [((m : Int).toNat, b)]) D.step.sure) (D.pend ++ [((m : Int).toNat, b)]) D.step.fails _ _
              rw [Dk.step_sure]
              exact h
            · rcases h with h | h
              · exact .inl h
              · have h1 := M5.out.size
                have h2 : (w.alloc (.cells #[.int .i64 0] 29)).heap.size = w.heap.size + 1 := (by simp)
                exact (hx x h).imp id (fun h3 => by omega))
          clear hbb hnbb
          -- R7
          refine wp_region_noPanic ?_
          refine wp_region_held_drew (S := fun X => X.rangeAt bb bo CS) (by kernel_rfl) RG5.out (fun sx => ?_)
          have SX := Lib.hid sx
          clear sx
          refine RD.h_take 0 (.pointer (some ⟨g, 0, none⟩)) rfl (by kernel_rfl) (by kernel_rfl) (by kernel_rfl) (fun _ _ _ h => h) (by rfl) SX.out (fun X hX => ?_) ?_
          · go_simp
          simp only [Act.put, List.setIfInBounds_toArray, List.set_cons_zero, List.set_cons_succ]
          refine RD.h_take 1 (.pointer (some ⟨g, 0, none⟩)) rfl (by kernel_rfl) (by kernel_rfl) (by kernel_rfl) (fun _ _ _ h => h) (by rfl) SX.out (fun X hX => ?_) ?_
          · go_simp
          simp only [Act.put, List.setIfInBounds_toArray, List.set_cons_zero, List.set_cons_succ]
          refine RD.h_take 2 (.pointer (some ⟨g, 0, none⟩)) rfl (by kernel_rfl) (by kernel_rfl) (by kernel_rfl) (fun _ _ _ h => h) (by rfl) SX.out (fun X hX => ?_) ?_
          · go_simp
          simp only [Act.put, List.setIfInBounds_toArray, List.set_cons_zero, List.set_cons_succ]
          refine RD.h_take 3 (.pointer (some ⟨g, 2, none⟩)) rfl (by kernel_rfl) (by kernel_rfl) (by kernel_rfl) (fun _ _ _ h => h) (by rfl) SX.out (fun X hX => ?_) ?_
          · go_simp
          simp only [Act.put, List.setIfInBounds_toArray, List.set_cons_zero, List.set_cons_succ]
          refine RD.h_take 5 (.int .i64 (m : Int)) rfl (by kernel_rfl) (by kernel_rfl) (by kernel_rfl) (fun _ _ _ h => h) (by rfl) SX.out (fun X hX => ?_) ?_
          · go_simp
          simp only [Act.put, List.setIfInBounds_toArray, List.set_cons_zero, List.set_cons_succ]
          refine RD.h_take 6 (.slice (some ⟨bb, bo, none⟩) 64 c) rfl (by kernel_rfl) (by kernel_rfl) (by kernel_rfl) (fun _ _ _ h => h) (by rfl) SX.out (fun X hX => ?_) ?_
          · go_simp
          simp only [Act.put, List.setIfInBounds_toArray, List.set_cons_zero, List.set_cons_succ]
          refine RD.h_take 7 (.pointer (some ⟨bb, bo, none⟩)) rfl (by kernel_rfl) (by kernel_rfl) (by kernel_rfl) (fun _ _ _ h => h) (by rfl) SX.out (fun X hX => ?_) ?_
          · go_simp
          simp only [Act.put, List.setIfInBounds_toArray, List.set_cons_zero, List.set_cons_succ]
          refine RD.h_take 8 (.agg CS.toArray) rfl (by kernel_rfl) (by kernel_rfl) (by kernel_rfl) (fun _ _ _ h => h) (by rfl) SX.out (fun X hX => ?_) ?_
          · exact exec_load rfl rfl (run_loadAt_mid X bb bo _ CS _ hX g1 rfl g2)
          simp only [Act.put, List.setIfInBounds_toArray, List.set_cons_zero, List.set_cons_succ]
          refine RD.h_take 9 (.agg CW) rfl (by kernel_rfl) (by kernel_rfl) (by kernel_rfl) (fun _ _ _ h => h) (by rfl) SX.out (fun X hX => ?_) ?_
          · exact exec_build [(0, .int .i64 (m : Int)), (1, .agg CS.toArray)] rfl rfl (f7 X)
          simp only [Act.put, List.setIfInBounds_toArray, List.set_cons_zero, List.set_cons_succ]
          have y2 : w5.drew.cell? ⟨g, 2, none⟩ = some V4.vP := HB5.out.drew.cell 2
          have y3 : (w5.alloc (.cells CW 107)).cell? ⟨g, 2, none⟩ = some V4.vP := (HB5.out.alloc _).cell 2
          refine RD.h_any [4, 10] (by kernel_rfl) (by simp) (RD.two_of ?_ ?_)
          · refine RD.h_run V4.vP w5.drew rfl (by rfl) (by go_simp) ⟨RG5.out, ?_⟩
            simp only [Act.put, List.setIfInBounds_toArray, List.set_cons_zero, List.set_cons_succ]
            refine RD.h_any [10] (by kernel_rfl) (by simp) (RD.one_of ?_)
            refine RD.h_run (.slice (some ⟨w5.heap.size, 0, none⟩) 1 1) (w5.drew.alloc (.cells CW 107)) rfl (by rfl) (exec_bs [(0, .agg CW)] rfl rfl (f8 w5.drew)) ⟨S6.out, ?_⟩
            simp only [Act.put, List.setIfInBounds_toArray, List.set_cons_zero, List.set_cons_succ]
            refine RD.h_any [11] (by kernel_rfl) (by simp) (RD.one_of ?_)
            refine RD.h_op rfl (step_append_wr (by rfl) (.tmp 32) (.tmp 38) rfl N V4.vP D.pend rfl OP6.out w5.heap.size m b rfl W6.out HR.out.len FEW.out NB.out (fun v7 w7 o7 g7 n7 => ⟨AFT.out v7 w7 o7 g7 n7, ?_⟩))
            simp only [Act.put, List.setIfInBounds_toArray, List.set_cons_zero, List.set_cons_succ]
            obtain ⟨A7, c7, hv7⟩ := own_slice o7
            subst hv7
            have O7 := Lib.hid o7
            have G7 := Lib.hid g7
            have N7 := Lib.hid n7
            have T7 := Lib.hid (TW.out _ w7 o7 g7 n7)
            clear o7 g7 n7
            have y2 : w7.cell? ⟨g, 2, none⟩ = some V4.vP := T7.out.cell 2
            have y3 := T7.out.frozen 2
            have S7 := Lib.hid (AFT.out _ w7 O7.out G7.out N7.out)
            have P7 := Lib.hid (R5.out.appended (m := m) (b := b) O7.out G7.out N7.out)
            obtain ⟨v7, hv7⟩ : ∃ v7, v7 = Value.slice A7 (D.pend ++ [(m, b)]).length c7 := ⟨_, rfl⟩
            have SL := Lib.hid (AF8.out _ w7 G7.out N7.out)
            obtain ⟨pl, hpl⟩ : ∃ pl, pl = (D.pend ++ [(m, b)]).length := ⟨_, rfl⟩
            have HPL := Lib.hid hpl
            refine RD.h_take 12 (.pointer (some ⟨g, 0, none⟩)) rfl (by kernel_rfl) (by kernel_rfl) (by kernel_rfl) (fun _ _ _ h => h) (by rfl) S7.out (fun X hX => ?_) ?_
            · clear hpl hv7; go_simp
            simp only [Act.put, List.setIfInBounds_toArray, List.set_cons_zero, List.set_cons_succ]
            refine RD.h_take 13 (.pointer (some ⟨g, 2, none⟩)) rfl (by kernel_rfl) (by kernel_rfl) (by kernel_rfl) (fun _ _ _ h => h) (by rfl) S7.out (fun X hX => ?_) ?_
            · clear hpl hv7; go_simp
            simp only [Act.put, List.setIfInBounds_toArray, List.set_cons_zero, List.set_cons_succ]
            refine RD.h_any [14] (by kernel_rfl) (by simp) (RD.one_of ?_)
            refine RD.h_skip (w7.setCell ⟨g, 2, none⟩ (.slice A7 (D.pend ++ [(m, b)]).length c7)) rfl (by rfl) (by clear hpl hv7; go_simp) ⟨SL.out, ?_⟩
            simp only [Act.put, List.setIfInBounds_toArray, List.set_cons_zero, List.set_cons_succ]
            refine RD.h_done (by kernel_rfl) ?_
            refine NoPanic.normal ?_
            have E8 := Lib.hid (FIN.out _ w7 T7.out P7.out.1 P7.out.2.1 P7.out.2.2)
            clear hpl hv7 f7 f8 f1
            generalize w7.setCell ⟨g, 2, none⟩ (Value.slice A7 (D.pend ++ [(m, b)]).length c7) = w8 at *
            have k8 := cell_of_one E8.out.1
            have z8 := free_of_one E8.out.1
            go_wp2_with (fail)
            refine dwrite_ret (y := 0) (E8.out.1.put 0 _) rfl ?_
            rw [set_set]
            exact E8.out.2
          · refine RD.h_run (.slice (some ⟨w5.heap.size, 0, none⟩) 1 1) (w5.drew.alloc (.cells CW 107)) rfl (by rfl) (exec_bs [(0, .agg CW)] rfl rfl (f8 w5.drew)) ⟨S6.out, ?_⟩
            simp only [Act.put, List.setIfInBounds_toArray, List.set_cons_zero, List.set_cons_succ]
            refine RD.h_any [4] (by kernel_rfl) (by simp) (RD.one_of ?_)
            refine RD.h_run V4.vP (w5.drew.alloc (.cells CW 107)) rfl (by rfl) (by go_simp) ⟨S6.out, ?_⟩
            simp only [Act.put, List.setIfInBounds_toArray, List.set_cons_zero, List.set_cons_succ]
            refine RD.h_any [11] (by kernel_rfl) (by simp) (RD.one_of ?_)
            refine RD.h_op rfl (step_append_wr (by rfl) (.tmp 32) (.tmp 38) rfl N V4.vP D.pend rfl OP6.out w5.heap.size m b rfl W6.out HR.out.len FEW.out NB.out (fun v7 w7 o7 g7 n7 => ⟨AFT.out v7 w7 o7 g7 n7, ?_⟩))
            simp only [Act.put, List.setIfInBounds_toArray, List.set_cons_zero, List.set_cons_succ]
            obtain ⟨A7, c7, hv7⟩ := own_slice o7
            subst hv7
            have O7 := Lib.hid o7
            have G7 := Lib.hid g7
            have N7 := Lib.hid n7
            have T7 := Lib.hid (TW.out _ w7 o7 g7 n7)
            clear o7 g7 n7
            have y2 : w7.cell? ⟨g, 2, none⟩ = some V4.vP := T7.out.cell 2
            have y3 := T7.out.frozen 2
            have S7 := Lib.hid (AFT.out _ w7 O7.out G7.out N7.out)
            have P7 := Lib.hid (R5.out.appended (m := m) (b := b) O7.out G7.out N7.out)
            obtain ⟨v7, hv7⟩ : ∃ v7, v7 = Value.slice A7 (D.pend ++ [(m, b)]).length c7 := ⟨_, rfl⟩
            have SL := Lib.hid (AF8.out _ w7 G7.out N7.out)
            obtain ⟨pl, hpl⟩ : ∃ pl, pl = (D.pend ++ [(m, b)]).length := ⟨_, rfl⟩
            have HPL := Lib.hid hpl
            refine RD.h_take 12 (.pointer (some ⟨g, 0, none⟩)) rfl (by kernel_rfl) (by kernel_rfl) (by kernel_rfl) (fun _ _ _ h => h) (by rfl) S7.out (fun X hX => ?_) ?_
            · clear hpl hv7; go_simp
            simp only [Act.put, List.setIfInBounds_toArray, List.set_cons_zero, List.set_cons_succ]
            refine RD.h_take 13 (.pointer (some ⟨g, 2, none⟩)) rfl (by kernel_rfl) (by kernel_rfl) (by kernel_rfl) (fun _ _ _ h => h) (by rfl) S7.out (fun X hX => ?_) ?_
            · clear hpl hv7; go_simp
            simp only [Act.put, List.setIfInBounds_toArray, List.set_cons_zero, List.set_cons_succ]
            refine RD.h_any [14] (by kernel_rfl) (by simp) (RD.one_of ?_)
            refine RD.h_skip (w7.setCell ⟨g, 2, none⟩ (.slice A7 (D.pend ++ [(m, b)]).length c7)) rfl (by rfl) (by clear hpl hv7; go_simp) ⟨SL.out, ?_⟩
            simp only [Act.put, List.setIfInBounds_toArray, List.set_cons_zero, List.set_cons_succ]
            refine RD.h_done (by kernel_rfl) ?_
            refine NoPanic.normal ?_
            have E8 := Lib.hid (FIN.out _ w7 T7.out P7.out.1 P7.out.2.1 P7.out.2.2)
            clear hpl hv7 f7 f8 f1
            generalize w7.setCell ⟨g, 2, none⟩ (Value.slice A7 (D.pend ++ [(m, b)]).length c7) = w8 at *
            have k8 := cell_of_one E8.out.1
            have z8 := free_of_one E8.out.1
            go_wp2_with (fail)
            refine dwrite_ret (y := 0) (E8.out.1.put 0 _) rfl ?_
            rw [set_set]
            exact E8.out.2
        · rw [if_neg h0] at e0
          obtain ⟨cd, hcd⟩ : ∃ cd, cd = D.stepC := ⟨_, rfl⟩
          have e1 : stepE D.stepC = .panicked [LV.wrg (cd : Int)] := by rw [hcd]; simp [stepE, h0]
          rw [e1] at C2
          rw [e0, ← hcd]
          clear e0 e1 h0 hcd e9 hb r ok hi hr hap
          go_enter_defers Tryz.func85, Tryz.ntmps85
          go_wp2_with (first
            | (go_at_call 89; ((with_reducible refine (C1.out _ (HB.out.alloc _)).mono ?_); rintro e w1 ⟨rfl, rfl⟩))
            | (go_at_call 108; ((with_reducible refine (C3.out _ (HB.out.alloc _)).mono ?_); rintro e w1 ⟨rfl, rfl⟩))
            | (go_at_call 30; ((with_reducible refine (C4.out _).mono ?_); rintro e w1 ⟨rfl, rfl⟩))
            | (go_at_call 90; ((with_reducible refine (C2.out _ (T.out.below G1.out)).mono ?_); rintro e w4 ⟨rfl, t4, m4⟩)))
          exact dwrite_bad (y := 0) (m4.bk K1.out NF.out) rfl fun w1 hb => post_fin NW.out t4 (fun b h => .inl h) m4 NF.out hb
      · have C4 := Lib.hid (fun X => LV.need_no 1 X)
        have hn : ¬ (n : Int) = 64 := by omega
        have hl : ¬ b.length = 64 := by rw [hr.len]; exact h64
        have y1 : ((n : Int) == 64) = false := by simpa using hn
        rw [show D.writeC i b = 1 by simp [Dk.writeC, hoff, hl], show D.write i b = D by simp [Dk.write, hoff, hl]]
        clear hb r ok hi hr hap h64 hl
        go_enter_defers Tryz.func85, Tryz.ntmps85
        go_wp2_with (first
          | (go_at_call 89; ((with_reducible refine (C1.out _ (HB.out.alloc _)).mono ?_); rintro e w1 ⟨rfl, rfl⟩))
          | (go_at_call 108; ((with_reducible refine (C3.out _ (HB.out.alloc _)).mono ?_); rintro e w1 ⟨rfl, rfl⟩))
          | (go_at_call 30; ((with_reducible refine (C4.out _).mono ?_); rintro e w1 ⟨rfl, rfl⟩)))
        exact dwrite_bad (y := 0) K1.out rfl fun w1 hb => BAD.out w1 1 hb
    · have C3 := Lib.hid (fun X h => sector_no g V D.sure.length D.cnt D.stop false i hi X h)
      rw [show D.writeC i b = 1 by simp [Dk.writeC, hoff, hi], show D.write i b = D by simp [Dk.write, hoff, hi]]
      clear hb r ok hi hr hap
      go_enter_defers Tryz.func85, Tryz.ntmps85
      go_wp2_with (first
        | (go_at_call 89; ((with_reducible refine (C1.out _ (HB.out.alloc _)).mono ?_); rintro e w1 ⟨rfl, rfl⟩))
        | (go_at_call 108; ((with_reducible refine (C3.out _ (HB.out.alloc _)).mono ?_); rintro e w1 ⟨rfl, rfl⟩)))
      exact dwrite_bad (y := 0) K1.out rfl fun w1 hb => BAD.out w1 1 hb
end Go.Proofs.YtnoflgkjdibblaaGreatDoor.S19

/-
  What the landed Plan does. No statement is proved here.
-/
namespace Go.Proofs.YtnoflgkjdibblaaGreatDoor.S19
set_option linter.unusedSimpArgs false
set_option linter.unusedVariables false
set_option maxRecDepth 8192
open Go.RowKit

theorem In.planned {N : Nat} {w w7 : World} {g : Nat} {sure now : List (List UInt8)} {pend : List (Nat × List UInt8)} {fails fs : List Int} {F : Nat → Prop} {V : KnV} {A : Option Addr} {n c B : Nat} (r : In N w g sure now pend fails F V)
    (own : w7.ownsRow B 3 1 (.slice A n c) n (zv (sorted fs))) (hB : w.heap.size ≤ B) (hn : n ≤ 1099511627776) (hs : w.heap.size ≤ w7.heap.size) (hk : ∀ x, F x → x ≠ g → x < w.heap.size → w7.heap[x]? = w.heap[x]?) :
    In N w7 g sure now pend fs (fun x => F x ∨ (Value.slice A n c).ownBlock = some x) { V with fa := A, fn := n, fc := c, zs := sorted fs } := by
  have h := r.keep hs hk
  have hg := r.gN g r.fg
  have hlt : ∀ a, A = some a → w.heap.size ≤ a.block ∧ a.block < w7.heap.size := fun a e => by
    have := own.lt a.block (by rw [e]; rfl)
    omega
  refine ⟨h.sure, h.now, h.pend, RI.own own, hn, sorted_mem fs, sorted_srt fs, .inl r.fg, .inl r.fs, .inl r.fnn, fun x hx => .inl (r.fp x hx), fun a h1 h2 => .inr (by show (Value.slice A n c).ownBlock = _; have e : A = some a := h2; rw [e]; rfl), fun x hx => ?_, r.d1, r.d2, r.d3, r.dP, fun a h1 h2 => ?_⟩
  · rcases hx with hx | hx
    · exact h.gN x hx
    · have := own.lt x hx
      omega
  · have e : A = some a := h2
    have h3 := hlt a e
    have a2 := (r.gN _ r.fs).2
    have a3 := (r.gN _ r.fnn).2
    exact ⟨by omega, show a.block ≠ V.sb by omega, show a.block ≠ V.nb by omega, fun e => by have := (r.gN _ (r.fp _ e)).2; omega⟩
set_option maxHeartbeats 8000000 in
theorem plan_any (N : Nat) (w : World) (g : Nat) (D : Dk) (F : Nat → Prop) (A : Option Addr) (n c : Nat) (fs : List Int) (st : Int) (t : Kn N w g D F) (hr : RI w .i64 A n c fs) (hn : n ≤ 1099511627776) :
    Calls Tryz.prog 17 #[.pointer (some ⟨g, 0, none⟩), .agg #[.slice A n c, .int .i64 st]] w fun e w' => e = .returned (.tuple #[]) ∧ ∃ F', Kn N w' g (D.plan fs st) F' ∧ (∀ b, F' b → F b ∨ w.heap.size ≤ b) ∧ Mv N F w w' := by
  obtain ⟨ok, V, hb, r⟩ := t
  have GL := Lib.hid (r.gN g r.fg)
  have R := Lib.hid r
  have OK := Lib.hid ok
  obtain ⟨pb, hpb⟩ : ∃ pb, pb = w.heap.size := ⟨_, rfl⟩
  obtain ⟨w1, hw1⟩ : ∃ w1, w1 = w.alloc (.cells #[.slice A n c, .int .i64 st] 51) := ⟨_, rfl⟩
  have P1 := Lib.hid (show Bk w1 pb 51 #[.slice A n c, .int .i64 st] by rw [hw1]; exact Bk.newAt _ _ _ _ hpb.symm)
  have G1 := Lib.hid (show Below w.heap.size w w1 by rw [hw1]; exact (Below.refl _ _).alloc (Nat.le_refl _) _)
  have HB1 := Lib.hid (hb.below G1.out hb.lt)
  have RI1 := Lib.hid (hr.below G1.out)
  have CL := Lib.hid (fun X h => clone_zi A n c fs X h hn)
  have HN := Lib.hid hn
  clear hb r ok hr hn
  have HW1 := Lib.hid hw1
  have HPB := Lib.hid hpb
  have PBG := Lib.hid (show pb ≠ g by have := GL.out; omega)
  clear hw1
  go_enter Tryz.func17, Tryz.ntmps17
  go_upto_region 1 with (fail)
  rw [← HW1.out, ← HPB.out]
  clear hpb
  have p0 : w1.drew.cell? ⟨pb, 0, none⟩ = some (.slice A n c) := P1.out.drew.cell 0
  (go_region_held3 (fun X => X.cell? ⟨pb, 0, none⟩ = some (.slice A n c) ∧ X.cell? ⟨pb, 1, none⟩ = some (.int .i64 st)) (first
    | exact ⟨P1.out.drew.cell 0, P1.out.drew.cell 1⟩
    | exact ⟨P5.out.cell 0, P5.out.cell 1⟩
    | exact ⟨((P5.out.far PBG.out _).far PBG.out _).cell 0, ((P5.out.far PBG.out _).far PBG.out _).cell 1⟩) (first
    | (go_at_call 42; ((with_reducible refine (CL.out _ (RI1.out.below (Below.refl _ _).drew)).mono ?_); rintro e w5 ⟨A5, c5, rfl, o5, b5⟩; have O5 := Lib.hid o5; have B5 := Lib.hid (show Below w1.heap.size w1 w5 from (Below.refl _ _).drew.trans b5); have P5 := Lib.hid (P1.out.below B5.out P1.out.lt); have T5 := Lib.hid (HB1.out.below B5.out HB1.out.lt); have e4 : w5.cell? ⟨g, 4, none⟩ = some (.slice V.fa V.fn V.fc) := T5.out.cell 4; have e5 : w5.cell? ⟨g, 5, none⟩ = some (.int .i64 D.stop) := T5.out.cell 5; have z4 := T5.out.frozen 4; have z5 := T5.out.frozen 5; clear o5 b5))))
  have S1 := Lib.hid (show w1.heap.size = w.heap.size + 1 by rw [HW1.out]; simp)
  have AB := Lib.hid (show ∀ x, (Value.slice A5 n c5).ownBlock = some x → w1.heap.size ≤ x ∧ x < w5.heap.size from fun x e => O5.out.lt x e)
  have T6 := Lib.hid (show Bk ((w5.setCell ⟨g, 4, none⟩ (.slice A5 n c5)).setCell ⟨g, 5, none⟩ (.int .i64 st)) g 79 #[.slice (some ⟨V.sb, 0, none⟩) D.sure.length D.sure.length, .slice (some ⟨V.nb, 0, none⟩) D.sure.length D.sure.length, V.vP, .int .i64 (D.cnt : Int), .slice A5 n c5, .int .i64 st, .bool D.off] from (T5.out.put 4 _).put 5 _)
  have O6 := Lib.hid (show ((w5.setCell ⟨g, 4, none⟩ (.slice A5 n c5)).setCell ⟨g, 5, none⟩ (.int .i64 st)).ownsRow w1.heap.size 3 1 (.slice A5 n c5) n (zv fs) from own_keepH O5.out fun x e _ => by
    have h1 := AB.out x e
    have h2 : x ≠ g := by have := GL.out; have := S1.out; omega
    exact (Below.heap_setCell _ ⟨g, 5, none⟩ _ x h2).trans (Below.heap_setCell _ ⟨g, 4, none⟩ _ x h2))
  have K6 := Lib.hid (show ∀ x, x ≠ g → ((w5.setCell ⟨g, 4, none⟩ (.slice A5 n c5)).setCell ⟨g, 5, none⟩ (.int .i64 st)).heap[x]? = w5.heap[x]? from fun x h2 => (Below.heap_setCell _ ⟨g, 5, none⟩ _ x h2).trans (Below.heap_setCell _ ⟨g, 4, none⟩ _ x h2))
  have M6 := Lib.hid (show Mv N F w ((w5.setCell ⟨g, 4, none⟩ (.slice A5 n c5)).setCell ⟨g, 5, none⟩ (.int .i64 st)) from (((Mv.of (by have := GL.out; omega) G1.out).trans (Mv.of (F := F) (by have := GL.out; have := S1.out; omega) B5.out) fun b h => .inl h).trans (Mv.pokeK R.out.fg GL.out.1 4 _) fun b h => .inl h).trans (Mv.pokeK R.out.fg GL.out.1 5 _) fun b h => .inl h)
  have S6 := Lib.hid (show ((w5.setCell ⟨g, 4, none⟩ (.slice A5 n c5)).setCell ⟨g, 5, none⟩ (.int .i64 st)).heap.size = w5.heap.size by simp)
  generalize (w5.setCell ⟨g, 4, none⟩ (.slice A5 n c5)).setCell ⟨g, 5, none⟩ (.int .i64 st) = w6 at *
  have c4 : w6.cell? ⟨g, 4, none⟩ = some (.slice A5 n c5) := T6.out.cell 4
  have SO := Lib.hid (fun (h : w1.heap.size ≤ w6.heap.size) => sort_zi w1.heap.size A5 n c5 fs w6 O6.out HN.out h)
  have N6 := Lib.hid (show w1.heap.size ≤ w6.heap.size by rw [S6.out]; exact B5.out.size)
  clear e4 e5 z4 z5 p0
  go_wp2_with (go_at_call 43; ((with_reducible refine (SO.out N6.out).mono ?_); rintro e w7 ⟨rfl, o7, g7⟩; have O7 := Lib.hid o7; have G7 := Lib.hid g7; clear o7 g7))
  go_end0
  have hbl : ∀ x, some x = A5.map (·.block) → w1.heap.size ≤ x := fun x e => (AB.out x (by
    cases A5 with
    | none => cases e
    | some a => exact e.symm)).1
  have hs1 := S1.out
  have hs6 := S6.out
  have hb5 := B5.out.size
  have hg7 := G7.out.size
  have hgl := GL.out
  have hk : ∀ x, x < w.heap.size → x ≠ g → w7.heap[x]? = w.heap[x]? := fun x hx hne => by
    refine (G7.out.block x (by omega) fun e => by have := hbl x e; omega).trans ((K6.out x hne).trans ((B5.out.block x (by omega)).trans (G1.out.block x hx)))
  refine ⟨rfl, fun x => F x ∨ (Value.slice A5 n c5).ownBlock = some x, ⟨Dk.plan_ok OK.out _ _, { V with fa := A5, fn := n, fc := c5, zs := sorted fs }, (G7.out.block g (by omega) fun e => by have := hbl g e; omega).trans T6.out, R.out.planned O7.out (by omega) HN.out (by omega) fun x _ hne hx => hk x hx hne⟩, fun x hx => hx.imp id fun h => by have := AB.out x h; omega, M6.out.trans ?_ fun b h => h⟩
  refine ⟨⟨G7.out.os, G7.out.tape, G7.out.output, hg7, fun x hx => G7.out.block x (by omega) fun e => by have := hbl x e; omega⟩, fun x hx hne => G7.out.block x hx fun e => hne (.inr (by have := hbl x e; omega))⟩
end Go.Proofs.YtnoflgkjdibblaaGreatDoor.S19
