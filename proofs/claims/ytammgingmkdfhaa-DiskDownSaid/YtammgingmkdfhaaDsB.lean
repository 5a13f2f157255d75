/-
  What the landed Plan does. No statement is proved here.
-/
import Derived.Test.YtammgingmkdfhaaDsA
namespace Go.Proofs.Ytammgingmkdfhaa.S19
set_option linter.unusedSimpArgs false
set_option linter.unusedVariables false
set_option maxRecDepth 8192
open Go.RowKit

theorem In.planned {N : Nat} {w w7 : World} {g : Nat} {sure now : List (List UInt8)} {pend : List (Nat × List UInt8)} {fails fs : List Int} {F : Nat → Prop} {V : KnV} {A : Option Addr} {n c B : Nat} (r : In N w g sure now pend fails F V)
    (own : w7.ownsRow B 3 1 (.slice A n c) n (zv (sorted fs))) (hB : w.heap.size ≤ B) (hn : n ≤ 1099511627776) (hs : w.heap.size ≤ w7.heap.size) (hk : ∀ x, F x → x ≠ g → x < w.heap.size → w7.heap[x]? = w.heap[x]?) :
    In N w7 g sure now pend fs (fun x => F x ∨ (Value.slice A n c).ownBlock = some x) { V with fa := A, fn := n, fc := c, zs := sorted fs } := by
  have h := r.keep hs hk
  have hg := r.gN g r.fg
  have hlt : ∀ a, A = some a → w.heap.size ≤ a.block ∧ a.block < w7.heap.size := fun a e => by
    have := own.lt a.block (by rw [e]; rfl)
    omega
  refine ⟨h.sure, h.now, h.pend, RI.own own, hn, sorted_mem fs, sorted_srt fs, .inl r.fg, .inl r.fs, .inl r.fnn, fun x hx => .inl (r.fp x hx), fun a h1 h2 => .inr (by show (Value.slice A n c).ownBlock = _; have e : A = some a := h2; rw [e]; rfl), fun x hx => ?_, r.d1, r.d2, r.d3, r.dP, fun a h1 h2 => ?_⟩
  · rcases hx with hx | hx
    · exact h.gN x hx
    · have := own.lt x hx
      omega
  · have e : A = some a := h2
    have h3 := hlt a e
    have a2 := (r.gN _ r.fs).2
    have a3 := (r.gN _ r.fnn).2
    exact ⟨by omega, show a.block ≠ V.sb by omega, show a.block ≠ V.nb by omega, fun e => by have := (r.gN _ (r.fp _ e)).2; omega⟩
set_option maxHeartbeats 8000000 in
theorem plan_any (N : Nat) (w : World) (g : Nat) (D : Dk) (F : Nat → Prop) (A : Option Addr) (n c : Nat) (fs : List Int) (st : Int) (t : Kn N w g D F) (hr : RI w .i64 A n c fs) (hn : n ≤ 1099511627776) :
    Calls Try.prog 21 #[.pointer (some ⟨g, 0, none⟩), .agg #[.slice A n c, .int .i64 st]] w fun e w' => e = .returned (.tuple #[]) ∧ ∃ F', Kn N w' g (D.plan fs st) F' ∧ (∀ b, F' b → F b ∨ w.heap.size ≤ b) ∧ Mv N F w w' := by
  obtain ⟨ok, V, hb, r⟩ := t
  have GL := Lib.hid (r.gN g r.fg)
  have R := Lib.hid r
  have OK := Lib.hid ok
  obtain ⟨pb, hpb⟩ : ∃ pb, pb = w.heap.size := ⟨_, rfl⟩
  obtain ⟨w1, hw1⟩ : ∃ w1, w1 = w.alloc (.cells #[.slice A n c, .int .i64 st] 33) := ⟨_, rfl⟩
  have P1 := Lib.hid (show Bk w1 pb 33 #[.slice A n c, .int .i64 st] by rw [hw1]; exact Bk.newAt _ _ _ _ hpb.symm)
  have G1 := Lib.hid (show Below w.heap.size w w1 by rw [hw1]; exact (Below.refl _ _).alloc (Nat.le_refl _) _)
  have HB1 := Lib.hid (hb.below G1.out hb.lt)
  have RI1 := Lib.hid (hr.below G1.out)
  have CL := Lib.hid (fun X h => clone_zi A n c fs X h hn)
  have HN := Lib.hid hn
  clear hb r ok hr hn
  have HW1 := Lib.hid hw1
  have HPB := Lib.hid hpb
  have PBG := Lib.hid (show pb ≠ g by have := GL.out; omega)
  clear hw1
  go_enter Try.func21, Try.ntmps21
  go_upto_region 1 with (fail)
  rw [← HW1.out, ← HPB.out]
  clear hpb
  have p0 : w1.drew.cell? ⟨pb, 0, none⟩ = some (.slice A n c) := P1.out.drew.cell 0
  (go_region_held3 (fun X => X.cell? ⟨pb, 0, none⟩ = some (.slice A n c) ∧ X.cell? ⟨pb, 1, none⟩ = some (.int .i64 st)) (first
    | exact ⟨P1.out.drew.cell 0, P1.out.drew.cell 1⟩
    | exact ⟨P5.out.cell 0, P5.out.cell 1⟩
    | exact ⟨((P5.out.far PBG.out _).far PBG.out _).cell 0, ((P5.out.far PBG.out _).far PBG.out _).cell 1⟩) (first
    | (go_at_call 38; ((with_reducible refine (CL.out _ (RI1.out.below (Below.refl _ _).drew)).mono ?_); rintro e w5 ⟨A5, c5, rfl, o5, b5⟩; have O5 := Lib.hid o5; have B5 := Lib.hid (show Below w1.heap.size w1 w5 from (Below.refl _ _).drew.trans b5); have P5 := Lib.hid (P1.out.below B5.out P1.out.lt); have T5 := Lib.hid (HB1.out.below B5.out HB1.out.lt); have e4 : w5.cell? ⟨g, 4, none⟩ = some (.slice V.fa V.fn V.fc) := T5.out.cell 4; have e5 : w5.cell? ⟨g, 5, none⟩ = some (.int .i64 D.stop) := T5.out.cell 5; have z4 := T5.out.frozen 4; have z5 := T5.out.frozen 5; clear o5 b5))))
  have S1 := Lib.hid (show w1.heap.size = w.heap.size + 1 by rw [HW1.out]; simp)
  have AB := Lib.hid (show ∀ x, (Value.slice A5 n c5).ownBlock = some x → w1.heap.size ≤ x ∧ x < w5.heap.size from fun x e => O5.out.lt x e)
  have T6 := Lib.hid (show Bk ((w5.setCell ⟨g, 4, none⟩ (.slice A5 n c5)).setCell ⟨g, 5, none⟩ (.int .i64 st)) g 65 #[.slice (some ⟨V.sb, 0, none⟩) D.sure.length D.sure.length, .slice (some ⟨V.nb, 0, none⟩) D.sure.length D.sure.length, V.vP, .int .i64 (D.cnt : Int), .slice A5 n c5, .int .i64 st, .bool D.off] from (T5.out.put 4 _).put 5 _)
  have O6 := Lib.hid (show ((w5.setCell ⟨g, 4, none⟩ (.slice A5 n c5)).setCell ⟨g, 5, none⟩ (.int .i64 st)).ownsRow w1.heap.size 3 1 (.slice A5 n c5) n (zv fs) from own_keepH O5.out fun x e _ => by
    have h1 := AB.out x e
    have h2 : x ≠ g := by have := GL.out; have := S1.out; omega
    exact (Below.heap_setCell _ ⟨g, 5, none⟩ _ x h2).trans (Below.heap_setCell _ ⟨g, 4, none⟩ _ x h2))
  have K6 := Lib.hid (show ∀ x, x ≠ g → ((w5.setCell ⟨g, 4, none⟩ (.slice A5 n c5)).setCell ⟨g, 5, none⟩ (.int .i64 st)).heap[x]? = w5.heap[x]? from fun x h2 => (Below.heap_setCell _ ⟨g, 5, none⟩ _ x h2).trans (Below.heap_setCell _ ⟨g, 4, none⟩ _ x h2))
  have M6 := Lib.hid (show Mv N F w ((w5.setCell ⟨g, 4, none⟩ (.slice A5 n c5)).setCell ⟨g, 5, none⟩ (.int .i64 st)) from (((Mv.of (by have := GL.out; omega) G1.out).trans (Mv.of (F := F) (by have := GL.out; have := S1.out; omega) B5.out) fun b h => .inl h).trans (Mv.pokeK R.out.fg GL.out.1 4 _) fun b h => .inl h).trans (Mv.pokeK R.out.fg GL.out.1 5 _) fun b h => .inl h)
  have S6 := Lib.hid (show ((w5.setCell ⟨g, 4, none⟩ (.slice A5 n c5)).setCell ⟨g, 5, none⟩ (.int .i64 st)).heap.size = w5.heap.size by simp)
  generalize (w5.setCell ⟨g, 4, none⟩ (.slice A5 n c5)).setCell ⟨g, 5, none⟩ (.int .i64 st) = w6 at *
  have c4 : w6.cell? ⟨g, 4, none⟩ = some (.slice A5 n c5) := T6.out.cell 4
  have SO := Lib.hid (fun (h : w1.heap.size ≤ w6.heap.size) => sort_zi w1.heap.size A5 n c5 fs w6 O6.out HN.out h)
  have N6 := Lib.hid (show w1.heap.size ≤ w6.heap.size by rw [S6.out]; exact B5.out.size)
  clear e4 e5 z4 z5 p0
  go_wp2_with (go_at_call 39; ((with_reducible refine (SO.out N6.out).mono ?_); rintro e w7 ⟨rfl, o7, g7⟩; have O7 := Lib.hid o7; have G7 := Lib.hid g7; clear o7 g7))
  go_end0
  have hbl : ∀ x, some x = A5.map (·.block) → w1.heap.size ≤ x := fun x e => (AB.out x (by
    cases A5 with
    | none => cases e
    | some a => exact e.symm)).1
  have hs1 := S1.out
  have hs6 := S6.out
  have hb5 := B5.out.size
  have hg7 := G7.out.size
  have hgl := GL.out
  have hk : ∀ x, x < w.heap.size → x ≠ g → w7.heap[x]? = w.heap[x]? := fun x hx hne => by
    refine (G7.out.block x (by omega) fun e => by have := hbl x e; omega).trans ((K6.out x hne).trans ((B5.out.block x (by omega)).trans (G1.out.block x hx)))
  refine ⟨rfl, fun x => F x ∨ (Value.slice A5 n c5).ownBlock = some x, ⟨Dk.plan_ok OK.out _ _, { V with fa := A5, fn := n, fc := c5, zs := sorted fs }, (G7.out.block g (by omega) fun e => by have := hbl g e; omega).trans T6.out, R.out.planned O7.out (by omega) HN.out (by omega) fun x _ hne hx => hk x hx hne⟩, fun x hx => hx.imp id fun h => by have := AB.out x h; omega, M6.out.trans ?_ fun b h => h⟩
  refine ⟨⟨G7.out.os, G7.out.tape, G7.out.output, hg7, fun x hx => G7.out.block x (by omega) fun e => by have := hbl x e; omega⟩, fun x hx hne => G7.out.block x hx fun e => hne (.inr (by have := hbl x e; omega))⟩
end Go.Proofs.Ytammgingmkdfhaa.S19
