/-
  Texts put together: Ds9. No statement is proved here.
-/
import Derived.Test.YtdbamdbdogdpjaaDoorWa18
import Derived.Laws.CopyRow

/-
  What the landed Flush does; copies of sectors. No statement is proved here.
-/
namespace Go.Proofs.YtdbamdbdogdpjaaDoor.S19
set_option linter.unusedSimpArgs false
set_option linter.unusedVariables false
set_option maxRecDepth 8192
open Go.RowKit

/-- 'copy' where an element is sz cells. -/
theorem run_copy_sz {P : Program} (sz : Nat) (w : World) (dT sT ty elem : TypeId) (g o dLen dCap : Nat) (a : Addr) (sLen sCap : Nat) (cur : Array Value) (t : TypeId) (cs : List Value)
    (hu : P.underlying dT = some (.slice elem)) (hs : (P.info? elem).map (·.size) = some sz)
    (hg : w.heap[g]? = some (.cells cur t (0, 0))) (hn : cs.length = Nat.min sLen dLen * sz)
    (hsrc : ∀ j v, cs[j]? = some v → w.cell? (a.add j) = some v) (hfit : o + cs.length ≤ cur.size) (h1 : ∀ v ∈ cs, v.oneCell' = true) :
    (Builtin.copy_ #[dT, sT] ty #[.slice (some ⟨g, o, none⟩) dLen dCap, .slice (some a) sLen sCap]).run P w =
      .ok (goInt (Nat.min sLen dLen)) (w.setRow g (cur.toList.take o ++ cs ++ cur.toList.drop (o + cs.length)).toArray) := by
  have hl := run_loadCells_list (P := P) w a cs hsrc
  have hst := run_storeCells_at P g o t cs 0 cur w hg (by simpa using hfit) h1
  cases hq : P.info? elem with
  | none => simp [hq] at hs
  | some i =>
    have hi : i.size = sz := by simpa [hq] using hs
    simp [Builtin.copy_, run_underlying hu, Builtin.lenOf, Builtin.firstCells, sizeOf, typeInfo, hq, hi, ← hn, hl, hst]
theorem Tryd.sizeSec : (Tryd.prog.info? 78).map (·.size) = some 64 := by kernel_rfl
/-- All sectors are copied. -/
theorem copy_all (w : World) (ty : TypeId) (d s k : Nat) (T T' : TypeId) (xs ys : List (List UInt8)) (hd : Bk w d T (rowsV xs).toArray) (hs : Bk w s T' (rowsV ys).toArray) (hx : ∀ b ∈ xs, b.length = 64) (hy : ∀ b ∈ ys, b.length = 64) (lx : xs.length = k) (ly : ys.length = k) :
    (Builtin.copy_ #[55, 55] ty #[.slice (some ⟨d, 0, none⟩) k k, .slice (some ⟨s, 0, none⟩) k k]).run Tryd.prog w = .ok (goInt k) (w.setRow d (rowsV ys).toArray) := by
  have l1 := rowsV_len hx
  have l2 := rowsV_len hy
  have h := run_copy_sz (P := Tryd.prog) 64 w 55 55 ty 78 d 0 k k ⟨s, 0, none⟩ k k (rowsV xs).toArray T (rowsV ys) Tryd.underlying55 Tryd.sizeSec hd (by rw [l2, ly]; simp; omega) (fun j v hj => by
    have e : (⟨s, 0, none⟩ : Addr).add j = ⟨s, 0 + j, none⟩ := by unfold Addr.add; split <;> simp_all
    rw [e, Nat.zero_add, hs.cell, List.getElem?_toArray]
    exact hj) (by simp; rw [l1, l2, lx, ly]; omega) (rowsV_one ys)
  rw [h]
  have e : Nat.min k k = k := Nat.min_self k
  rw [e]
  congr 2
  simp
  rw [l1, l2, lx, ly]
  simp
/-- The sectors that are sure are written over by those that were written last. -/
theorem In.flushed {N : Nat} {w : World} {g : Nat} {sure now : List (List UInt8)} {pend : List (Nat × List UInt8)} {fails : List Int} {F : Nat → Prop} {V : KnV} (r : In N w g sure now pend fails F V) :
    In N (w.setRow V.sb (rowsV now).toArray) g now now [] fails F { V with vP := .slice none 0 0 } := by
  have hs : (w.setRow V.sb (rowsV now).toArray).heap.size = w.heap.size := by simp [World.setRow]
  have hk : ∀ b, b ≠ V.sb → (w.setRow V.sb (rowsV now).toArray).heap[b]? = w.heap[b]? := fun b hb => setRow_other w V.sb b _ hb
  refine ⟨r.sure.row _, (hk _ r.d3.symm).trans r.now, ⟨rfl, .inl ⟨rfl, rfl⟩⟩, r.fl.keep (by omega) fun a h1 h2 _ => hk _ (r.dF a h1 h2).2.1, r.few, r.mem, r.srt, r.fg, r.fs, r.fnn, fun b h => absurd h (by simp [Value.ownBlock]), r.ff, fun b hb => by rw [hs]; exact r.gN b hb, r.d1, r.d2, r.d3, fun b h => absurd h (by simp [Value.ownBlock]), fun a h1 h2 => ⟨(r.dF a h1 h2).1, (r.dF a h1 h2).2.1, (r.dF a h1 h2).2.2.1, by simp [Value.ownBlock]⟩⟩
theorem Mv.row {N : Nat} {F : Nat → Prop} {w : World} {b : Nat} (hF : F b) (hN : N ≤ b) (cs : Array Value) : Mv N F w (w.setRow b cs) :=
  ⟨⟨rfl, rfl, rfl, by simp [World.setRow], fun k hk => setRow_other w b k _ (by omega)⟩, fun k _ h => setRow_other w b k _ fun e => h (by rw [e]; exact hF)⟩
theorem set_set (w : World) (b o : Nat) (v v' : Value) : (w.setCell ⟨b, o, none⟩ v).setCell ⟨b, o, none⟩ v' = w.setCell ⟨b, o, none⟩ v' := by
  rw [Sort.setCell_eq, Sort.setCell_eq, Sort.mapBlock_mapBlock, Sort.setCell_eq]
  congr 1
  funext c
  simp
/-- What a call comes to that has written its code at its end. -/
theorem post_fin {N : Nat} {w w4 w5 : World} {g : Nat} {D' : Dk} {F F' : Nat → Prop} {o : Obj} {v u : Value} (NW : N ≤ w.heap.size) (t4 : Kn N w4 g D' F') (hF : ∀ b, F' b → F b ∨ w.heap.size < b) (m4 : Mv N F (w.alloc o) w4) (NF : ¬ F w.heap.size) (hb : Below w4.heap.size w4 w5) :
    Post Kn N F g w D' v (.returned v) (w5.setCell ⟨w.heap.size, 0, none⟩ u) := by
  have NF' : ¬ F' w.heap.size := fun h => (hF _ h).elim NF (Nat.lt_irrefl _)
  have h4 : w.heap.size + 1 ≤ w4.heap.size := by have := m4.size; simpa using this
  refine ⟨rfl, F', (t4.below hb).keep (by simp) fun b hF _ => Below.heap_setCell _ ⟨w.heap.size, 0, none⟩ _ b fun e => NF' (by rw [e] at hF; exact hF), fun b h => (hF b h).imp id Nat.le_of_lt, ?_⟩
  have m0 : Mv N F w (w.alloc o) := Mv.of NW ((Below.refl _ _).alloc (Nat.le_refl _) _)
  have m5 : Mv N F w4 w5 := Mv.of (by omega) hb
  have m6 : Mv N (fun b => b = w.heap.size) w5 (w5.setCell ⟨w.heap.size, 0, none⟩ u) := ⟨(Below.refl _ _).setCell (show N ≤ (⟨w.heap.size, 0, none⟩ : Addr).block from NW) _, fun b _ h => Below.heap_setCell _ ⟨w.heap.size, 0, none⟩ _ b h⟩
  exact ((m0.trans m4 fun b h => .inl h).trans m5 fun b h => .inl h).trans m6 fun b h => .inr (by rw [h]; exact Nat.le_refl _)
set_option maxHeartbeats 4000000 in
theorem flush_any (N : Nat) (w : World) (g : Nat) (D : Dk) (F : Nat → Prop) (t : Kn N w g D F) (hc : D.cnt < 1099511627776) : Calls Tryd.prog 33 #[.pointer (some ⟨g, 0, none⟩)] w (Post Kn N F g w D.flush (.int .i64 (D.stepC : Int))) := by
  have hmf : ∀ (fn : Fn) (first cap : Array Value) (w : World), (Instr.makeFunc fn first cap).run Tryd.prog w = .ok (.func fn first cap) w := fun _ _ _ _ => rfl
  have T := Lib.hid t
  have NW := Lib.hid (show N ≤ w.heap.size by obtain ⟨ok, V, hb, r⟩ := t; have := r.gN g r.fg; omega)
  have NF := Lib.hid (show ¬ F w.heap.size from fun h => Nat.lt_irrefl _ (t.lt _ h).2)
  have K1 := Lib.hid (Bk.newAt w 24 #[.int .i64 0] w.heap.size rfl)
  have G1 := Lib.hid (show Below w.heap.size w (w.alloc (.cells #[.int .i64 0] 24)) from (Below.refl _ _).alloc (Nat.le_refl _) _)
  cases hoff : D.off with
  | true =>
    obtain ⟨ok, V, hb, r⟩ := t
    rw [hoff] at hb
    have C1 := Lib.hid (fun X h => power_no g V D.sure.length D.cnt D.stop X h)
    have e1 : D.stepC = 6 := by simp [Dk.stepC, hoff]
    have e2 : D.flush = D := by simp [Dk.flush, hoff]
    have HB := Lib.hid hb
    rw [e1, e2]
    clear r hb ok
    go_enter_defers Tryd.func33, Tryd.ntmps33
    go_wp2_with (go_at_call 42; ((with_reducible refine (C1.out _ (HB.out.alloc _)).mono ?_); rintro e w1 ⟨rfl, rfl⟩))
    refine dflush_bad (y := 0) K1.out rfl fun w1 hb => ?_
    have G := ((G1.out).trans (hb.mono G1.out.size)).setCell (p := ⟨w.heap.size, 0, none⟩) (Nat.le_refl _) (.int .i64 6)
    exact ⟨rfl, F, T.out.below G, fun b h => .inl h, Mv.of NW.out G⟩
  | false =>
    have C2 := Lib.hid (fun X h => step_any N X g D F h hoff hc)
    obtain ⟨ok, V, hb, r⟩ := t
    rw [hoff] at hb
    have C1 := Lib.hid (fun X h => power_ok g V D.sure.length D.cnt D.stop X h)
    have HB := Lib.hid hb
    clear r hb ok
    have e0 : D.flush = if D.stepC = 0 then { D.step with sure := Dk.laid D.pend D.sure, pend := [] } else D.step := by simp [Dk.flush, hoff]
    by_cases h0 : D.stepC = 0
    · rw [if_pos h0] at e0
      have e1 : stepE D.stepC = .returned (.tuple #[]) := by simp [stepE, h0]
      rw [e1] at C2
      have OKF := Lib.hid (show ({ D.step with sure := Dk.laid D.pend D.sure, pend := [] } : Dk).Ok by rw [← e0]; exact Dk.flush_ok T.out.ok)
      rw [h0, e0]
      clear e0 e1 h0
      go_enter_defers Tryd.func33, Tryd.ntmps33
      go_upto_region 4 with (first
        | (go_at_call 42; ((with_reducible refine (C1.out _ (HB.out.alloc _)).mono ?_); rintro e w1 ⟨rfl, rfl⟩))
        | (go_at_call 44; ((with_reducible refine (C2.out _ (T.out.below G1.out)).mono ?_); rintro e w4 ⟨rfl, t4, m4⟩; have T4 := Lib.hid t4; have M4 := Lib.hid m4; clear t4 m4)))
      obtain ⟨ok4, V4, hb4, r4⟩ := T4.out
      have ls : (Dk.laid D.pend D.sure).length = D.sure.length := Dk.laid_len _ _
      obtain ⟨q1, q2⟩ := kn_now (N := N) (w := w) (g := g) (F := F) (V := V4) ok4
      rw [Dk.step_pend, Dk.step_sure] at q1 q2 r4
      have hrows : ∀ b ∈ D.sure, b.length = 64 := by have := ok4.rows; rw [Dk.step_sure] at this; exact this
      obtain ⟨k, hk⟩ : ∃ k, k = D.step.sure.length := ⟨_, rfl⟩
      rw [← hk] at hb4
      have hk2 : D.sure.length = k := by rw [hk, Dk.step_sure]
      obtain ⟨Z, hZ⟩ : ∃ Z, Z = (rowsV (Dk.laid D.pend D.sure)).toArray := ⟨_, rfl⟩
      have hcp : (Builtin.copy_ #[55, 55] 3 #[.slice (some ⟨V4.sb, 0, none⟩) k k, .slice (some ⟨V4.nb, 0, none⟩) k k]).run Tryd.prog w4.drew = .ok (goInt k) (w4.drew.setRow V4.sb Z) := by
        rw [hZ]
        exact copy_all w4.drew 3 V4.sb V4.nb k _ _ _ _ r4.sure.drew r4.now.drew hrows q1 hk2 (by omega)
      have HB4 := Lib.hid hb4
      have R4 := Lib.hid r4
      have HZ := Lib.hid hZ
      have OK4 := Lib.hid ok4
      have HK := Lib.hid hk
      clear hb4 r4 hZ ok4 hk hk2 hrows q1 q2 ls
      (go_region_held3 (fun X => X.cell? ⟨g, 0, none⟩ = some (.slice (some ⟨V4.sb, 0, none⟩) k k) ∧ X.cell? ⟨g, 1, none⟩ = some (.slice (some ⟨V4.nb, 0, none⟩) k k)) (first
        | exact ⟨HB4.out.drew.cell 0, HB4.out.drew.cell 1⟩
        | exact ⟨(HB4.out.drew.rowFar R4.out.d1 Z).cell 0, (HB4.out.drew.rowFar R4.out.d1 Z).cell 1⟩) (fail))
      have HB5 := Lib.hid (HB4.out.drew.rowFar R4.out.d1 Z)
      have R5 := Lib.hid (show In N (w4.drew.setRow V4.sb Z) g (Dk.laid D.pend D.sure) (Dk.laid D.pend D.sure) [] D.step.fails F { V4 with vP := .slice none 0 0 } by rw [HZ.out]; exact R4.out.drew.flushed)
      have M5 := Lib.hid (show Mv N F (w.alloc (.cells #[.int .i64 0] 24)) (w4.drew.setRow V4.sb Z) from (M4.out.trans (Mv.of (F := F) (by have := (R4.out.gN g R4.out.fg); omega) (Below.refl _ _).drew) fun b h => .inl h).trans (Mv.row R4.out.fs (R4.out.gN _ R4.out.fs).1 Z) fun b h => .inl h)
      have K5 := Lib.hid (M5.out.bk K1.out NF.out)
      generalize w4.drew.setRow V4.sb Z = w5 at *
      have b2 : w5.cell? ⟨g, 2, none⟩ = some V4.vP := HB5.out.cell 2
      have z2 := HB5.out.frozen 2
      have k5 := cell_of_one K5.out
      have z5 := free_of_one K5.out
      have b5 : w.heap.size ≠ g := fun e => NF.out (by rw [e]; exact R4.out.fg)
      clear hcp T4 M4 HB4 HZ hc hoff C1 C2 HB
      go_upto_region 6 with (fail)
      obtain ⟨w6, hw6⟩ : ∃ w6, w6 = w5.setCell ⟨g, 2, none⟩ (.slice none 0 0) := ⟨_, rfl⟩
      have T6 := Lib.hid (show Kn N w6 g { D.step with sure := Dk.laid D.pend D.sure, pend := [] } F by
        refine ⟨OKF.out, { V4 with vP := .slice none 0 0 }, ?_, ?_⟩
        · show Bk w6 g _ (knA _ (Dk.laid D.pend D.sure).length _ _ _)
          rw [Dk.laid_len, ← Dk.step_sure, ← HK.out, hw6]
          exact HB5.out.put 2 _
        · rw [hw6]
          exact R5.out.poke 2 _)
      have M6 := Lib.hid (show Mv N F (w.alloc (.cells #[.int .i64 0] 24)) w6 by rw [hw6]; exact M5.out.trans (Mv.pokeK R5.out.fg (R5.out.gN g R5.out.fg).1 2 _) fun b h => .inl h)
      have K6 := Lib.hid (M6.out.bk K1.out NF.out)
      rw [← hw6]
      clear hw6 b2 z2 k5 z5 HB5 R5 M5 K5
      have k6 := cell_of_one K6.out
      have z6 := free_of_one K6.out
      go_wp2_with (fail)
      refine dflush_ret (y := 0) (K6.out.put 0 _) rfl ?_
      have hX : (w6.setCell ⟨w.heap.size, 0, none⟩ (.int .i64 0)).setCell ⟨w.heap.size, 0, none⟩ (.int .i64 0) = w6.setCell ⟨w.heap.size, 0, none⟩ (.int .i64 0) := set_set _ _ _ _ _
      rw [hX]
      exact post_fin NW.out T6.out (fun b h => .inl h) M6.out NF.out (Below.refl _ _)
    · rw [if_neg h0] at e0
      obtain ⟨cd, hcd⟩ : ∃ cd, cd = D.stepC := ⟨_, rfl⟩
      have e1 : stepE D.stepC = .panicked [LV.wrg (cd : Int)] := by rw [hcd]; simp [stepE, h0]
      rw [e1] at C2
      rw [e0, ← hcd]
      clear e0 e1 h0 hcd
      go_enter_defers Tryd.func33, Tryd.ntmps33
      go_wp2_with (first
        | (go_at_call 42; ((with_reducible refine (C1.out _ (HB.out.alloc _)).mono ?_); rintro e w1 ⟨rfl, rfl⟩))
        | (go_at_call 44; ((with_reducible refine (C2.out _ (T.out.below G1.out)).mono ?_); rintro e w4 ⟨rfl, t4, m4⟩)))
      refine dflush_bad (y := 0) (m4.bk K1.out NF.out) rfl fun w1 hb => ?_
      exact post_fin NW.out t4 (fun b h => .inl h) m4 NF.out hb
end Go.Proofs.YtdbamdbdogdpjaaDoor.S19
