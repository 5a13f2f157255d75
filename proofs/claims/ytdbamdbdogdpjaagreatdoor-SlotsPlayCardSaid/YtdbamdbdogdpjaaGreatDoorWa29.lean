/-
  Texts put together: DsB, DsC, DsD, DsE. No statement is proved here.
-/
import Derived.Test.YtdbamdbdogdpjaaGreatDoorWa28
import Derived.Test.YtdbamdbdogdpjaaGreatDoorWa13

/-
  What the landed Plan does. No statement is proved here.
-/
namespace Go.Proofs.YtdbamdbdogdpjaaGreatDoor.S19
set_option linter.unusedSimpArgs false
set_option linter.unusedVariables false
set_option maxRecDepth 8192
open Go.RowKit

theorem In.planned {N : Nat} {w w7 : World} {g : Nat} {sure now : List (List UInt8)} {pend : List (Nat × List UInt8)} {fails fs : List Int} {F : Nat → Prop} {V : KnV} {A : Option Addr} {n c B : Nat} (r : In N w g sure now pend fails F V)
    (own : w7.ownsRow B 3 1 (.slice A n c) n (zv (sorted fs))) (hB : w.heap.size ≤ B) (hn : n ≤ 1099511627776) (hs : w.heap.size ≤ w7.heap.size) (hk : ∀ x, F x → x ≠ g → x < w.heap.size → w7.heap[x]? = w.heap[x]?) :
    In N w7 g sure now pend fs (fun x => F x ∨ (Value.slice A n c).ownBlock = some x) { V with fa := A, fn := n, fc := c, zs := sorted fs } := by
  have h := r.keep hs hk
  have hg := r.gN g r.fg
  have hlt : ∀ a, A = some a → w.heap.size ≤ a.block ∧ a.block < w7.heap.size := fun a e => by
    have := own.lt a.block (by rw [e]; rfl)
    omega
  refine ⟨h.sure, h.now, h.pend, RI.own own, hn, sorted_mem fs, sorted_srt fs, .inl r.fg, .inl r.fs, .inl r.fnn, fun x hx => .inl (r.fp x hx), fun a h1 h2 => .inr (by show (Value.slice A n c).ownBlock = _; have e : A = some a := h2; rw [e]; rfl), fun x hx => ?_, r.d1, r.d2, r.d3, r.dP, fun a h1 h2 => ?_⟩
  · rcases hx with hx | hx
    · exact h.gN x hx
    · have := own.lt x hx
      omega
  · have e : A = some a := h2
    have h3 := hlt a e
    have a2 := (r.gN _ r.fs).2
    have a3 := (r.gN _ r.fnn).2
    exact ⟨by omega, show a.block ≠ V.sb by omega, show a.block ≠ V.nb by omega, fun e => by have := (r.gN _ (r.fp _ e)).2; omega⟩
set_option maxHeartbeats 8000000 in
theorem plan_any (N : Nat) (w : World) (g : Nat) (D : Dk) (F : Nat → Prop) (A : Option Addr) (n c : Nat) (fs : List Int) (st : Int) (t : Kn N w g D F) (hr : RI w .i64 A n c fs) (hn : n ≤ 1099511627776) :
    Calls Tryz.prog 17 #[.pointer (some ⟨g, 0, none⟩), .agg #[.slice A n c, .int .i64 st]] w fun e w' => e = .returned (.tuple #[]) ∧ ∃ F', Kn N w' g (D.plan fs st) F' ∧ (∀ b, F' b → F b ∨ w.heap.size ≤ b) ∧ Mv N F w w' := by
  obtain ⟨ok, V, hb, r⟩ := t
  have GL := Lib.hid (r.gN g r.fg)
  have R := Lib.hid r
  have OK := Lib.hid ok
  obtain ⟨pb, hpb⟩ : ∃ pb, pb = w.heap.size := ⟨_, rfl⟩
  obtain ⟨w1, hw1⟩ : ∃ w1, w1 = w.alloc (.cells #[.slice A n c, .int .i64 st] 38) := ⟨_, rfl⟩
  have P1 := Lib.hid (show Bk w1 pb 38 #[.slice A n c, .int .i64 st] by rw [hw1]; exact Bk.newAt _ _ _ _ hpb.symm)
  have G1 := Lib.hid (show Below w.heap.size w w1 by rw [hw1]; exact (Below.refl _ _).alloc (Nat.le_refl _) _)
  have HB1 := Lib.hid (hb.below G1.out hb.lt)
  have RI1 := Lib.hid (hr.below G1.out)
  have CL := Lib.hid (fun X h => clone_zi A n c fs X h hn)
  have HN := Lib.hid hn
  clear hb r ok hr hn
  have HW1 := Lib.hid hw1
  have HPB := Lib.hid hpb
  have PBG := Lib.hid (show pb ≠ g by have := GL.out; omega)
  clear hw1
  go_enter Tryz.func17, Tryz.ntmps17
  go_upto_region 1 with (fail)
  rw [← HW1.out, ← HPB.out]
  clear hpb
  have p0 : w1.drew.cell? ⟨pb, 0, none⟩ = some (.slice A n c) := P1.out.drew.cell 0
  (go_region_held3 (fun X => X.cell? ⟨pb, 0, none⟩ = some (.slice A n c) ∧ X.cell? ⟨pb, 1, none⟩ = some (.int .i64 st)) (first
    | exact ⟨P1.out.drew.cell 0, P1.out.drew.cell 1⟩
    | exact ⟨P5.out.cell 0, P5.out.cell 1⟩
    | exact ⟨((P5.out.far PBG.out _).far PBG.out _).cell 0, ((P5.out.far PBG.out _).far PBG.out _).cell 1⟩) (first
    | (go_at_call 49; ((with_reducible refine (CL.out _ (RI1.out.below (Below.refl _ _).drew)).mono ?_); rintro e w5 ⟨A5, c5, rfl, o5, b5⟩; have O5 := Lib.hid o5; have B5 := Lib.hid (show Below w1.heap.size w1 w5 from (Below.refl _ _).drew.trans b5); have P5 := Lib.hid (P1.out.below B5.out P1.out.lt); have T5 := Lib.hid (HB1.out.below B5.out HB1.out.lt); have e4 : w5.cell? ⟨g, 4, none⟩ = some (.slice V.fa V.fn V.fc) := T5.out.cell 4; have e5 : w5.cell? ⟨g, 5, none⟩ = some (.int .i64 D.stop) := T5.out.cell 5; have z4 := T5.out.frozen 4; have z5 := T5.out.frozen 5; clear o5 b5))))
  have S1 := Lib.hid (show w1.heap.size = w.heap.size + 1 by rw [HW1.out]; simp)
  have AB := Lib.hid (show ∀ x, (Value.slice A5 n c5).ownBlock = some x → w1.heap.size ≤ x ∧ x < w5.heap.size from fun x e => O5.out.lt x e)
  have T6 := Lib.hid (show Bk ((w5.setCell ⟨g, 4, none⟩ (.slice A5 n c5)).setCell ⟨g, 5, none⟩ (.int .i64 st)) g 68 #[.slice (some ⟨V.sb, 0, none⟩) D.sure.length D.sure.length, .slice (some ⟨V.nb, 0, none⟩) D.sure.length D.sure.length, V.vP, .int .i64 (D.cnt : Int), .slice A5 n c5, .int .i64 st, .bool D.off] from (T5.out.put 4 _).put 5 _)
  have O6 := Lib.hid (show ((w5.setCell ⟨g, 4, none⟩ (.slice A5 n c5)).setCell ⟨g, 5, none⟩ (.int .i64 st)).ownsRow w1.heap.size 3 1 (.slice A5 n c5) n (zv fs) from own_keepH O5.out fun x e _ => by
    have h1 := AB.out x e
    have h2 : x ≠ g := by have := GL.out; have := S1.out; omega
    exact (Below.heap_setCell _ ⟨g, 5, none⟩ _ x h2).trans (Below.heap_setCell _ ⟨g, 4, none⟩ _ x h2))
  have K6 := Lib.hid (show ∀ x, x ≠ g → ((w5.setCell ⟨g, 4, none⟩ (.slice A5 n c5)).setCell ⟨g, 5, none⟩ (.int .i64 st)).heap[x]? = w5.heap[x]? from fun x h2 => (Below.heap_setCell _ ⟨g, 5, none⟩ _ x h2).trans (Below.heap_setCell _ ⟨g, 4, none⟩ _ x h2))
  have M6 := Lib.hid (show Mv N F w ((w5.setCell ⟨g, 4, none⟩ (.slice A5 n c5)).setCell ⟨g, 5, none⟩ (.int .i64 st)) from (((Mv.of (by have := GL.out; omega) G1.out).trans (Mv.of (F := F) (by have := GL.out; have := S1.out; omega) B5.out) fun b h => .inl h).trans (Mv.pokeK R.out.fg GL.out.1 4 _) fun b h => .inl h).trans (Mv.pokeK R.out.fg GL.out.1 5 _) fun b h => .inl h)
  have S6 := Lib.hid (show ((w5.setCell ⟨g, 4, none⟩ (.slice A5 n c5)).setCell ⟨g, 5, none⟩ (.int .i64 st)).heap.size = w5.heap.size by simp)
  generalize (w5.setCell ⟨g, 4, none⟩ (.slice A5 n c5)).setCell ⟨g, 5, none⟩ (.int .i64 st) = w6 at *
  have c4 : w6.cell? ⟨g, 4, none⟩ = some (.slice A5 n c5) := T6.out.cell 4
  have SO := Lib.hid (fun (h : w1.heap.size ≤ w6.heap.size) => sort_zi w1.heap.size A5 n c5 fs w6 O6.out HN.out h)
  have N6 := Lib.hid (show w1.heap.size ≤ w6.heap.size by rw [S6.out]; exact B5.out.size)
  clear e4 e5 z4 z5 p0
  go_wp2_with (go_at_call 50; ((with_reducible refine (SO.out N6.out).mono ?_); rintro e w7 ⟨rfl, o7, g7⟩; have O7 := Lib.hid o7; have G7 := Lib.hid g7; clear o7 g7))
  go_end0
  have hbl : ∀ x, some x = A5.map (·.block) → w1.heap.size ≤ x := fun x e => (AB.out x (by
    cases A5 with
    | none => cases e
    | some a => exact e.symm)).1
  have hs1 := S1.out
  have hs6 := S6.out
  have hb5 := B5.out.size
  have hg7 := G7.out.size
  have hgl := GL.out
  have hk : ∀ x, x < w.heap.size → x ≠ g → w7.heap[x]? = w.heap[x]? := fun x hx hne => by
    refine (G7.out.block x (by omega) fun e => by have := hbl x e; omega).trans ((K6.out x hne).trans ((B5.out.block x (by omega)).trans (G1.out.block x hx)))
  refine ⟨rfl, fun x => F x ∨ (Value.slice A5 n c5).ownBlock = some x, ⟨Dk.plan_ok OK.out _ _, { V with fa := A5, fn := n, fc := c5, zs := sorted fs }, (G7.out.block g (by omega) fun e => by have := hbl g e; omega).trans T6.out, R.out.planned O7.out (by omega) HN.out (by omega) fun x _ hne hx => hk x hx hne⟩, fun x hx => hx.imp id fun h => by have := AB.out x h; omega, M6.out.trans ?_ fun b h => h⟩
  refine ⟨⟨G7.out.os, G7.out.tape, G7.out.output, hg7, fun x hx => G7.out.block x (by omega) fun e => by have := hbl x e; omega⟩, fun x hx hne => G7.out.block x hx fun e => hne (.inr (by have := hbl x e; omega))⟩
end Go.Proofs.YtdbamdbdogdpjaaGreatDoor.S19

/-
  What the landed Sure does. No statement is proved here.
-/
namespace Go.Proofs.YtdbamdbdogdpjaaGreatDoor.S19
set_option linter.unusedSimpArgs false
set_option linter.unusedVariables false
set_option maxRecDepth 8192
open Go.RowKit

theorem Tryz.infoBsK : (Tryz.prog.info? 35).map (fun i => (i.zero, i.size, i.bytes)) = some (some (.slice none 0 0), 1, 24) := by kernel_rfl
theorem run_make_rows (n : Nat) (hn : n ≤ 256) (w : World) : (Instr.makeSlice 50 (.int .i64 (n : Int)) (.int .i64 (n : Int))).run Tryz.prog w =
    .ok (.slice (some ⟨w.heap.size, 0, none⟩) n n) (w.alloc (.cells (List.replicate n (Value.slice none 0 0)).toArray 35)) := by
  obtain ⟨i0, hi, hz0, hz1, hz2⟩ := info_parts Tryz.infoBsK
  have hr := run_makeSlice (P := Tryz.prog) (w := w) 50 35 i0 _ Tryz.underlying50 hi hz0 .i64 .i64 (n : Int) (n : Int) (by omega) (Int.le_refl _) (by rw [hz1]; simp; omega) (by rw [hz2]; omega) (by omega)
  simp only [Int.toNat_natCast] at hr
  rw [hz1, Nat.mul_one] at hr
  have e : madeCells (Value.slice none 0 0).cells n = (List.replicate n (Value.slice none 0 0)).toArray := by
    apply Array.ext'
    rw [show (Value.slice none 0 0).cells = #[Value.slice none 0 0] from rfl, toList_madeCells_one]
  rw [e] at hr
  exact hr
/-- So many rows of what is sure are gathered. -/
structure Gs (w : World) (ob k i : Nat) (s : List (List UInt8)) (vs : List Value) (X : World) : Prop where
  bel : Below w.heap.size w X
  blk : Bk X ob 35 vs.toArray
  len : vs.length = k
  row : ∀ j, j < i → ∃ A c, vs[j]? = some (.slice A 64 c) ∧ Rd X A 64 c (s.getD j []) ∧ ∀ a, A = some a → w.heap.size ≤ a.block ∧ a.block ≠ ob
theorem Gs.step {w X X5 : World} {ob k i : Nat} {s : List (List UInt8)} {vs : List Value} (h : Gs w ob k i s vs X) (hi : i < k) (hob : w.heap.size ≤ ob) (hb : Below X.heap.size X X5) {A : Option Addr} {c : Nat} (hr : Rd X5 A 64 c (s.getD i [])) (ha : ∀ a, A = some a → X.heap.size ≤ a.block) :
    Gs w ob k (i + 1) s (vs.set i (.slice A 64 c)) (X5.setCell ⟨ob, i, none⟩ (.slice A 64 c)) := by
  have hol := h.blk.lt
  have hk : ∀ (B : Option Addr) (d : Nat) (xs : List UInt8), Rd X5 B 64 d xs → (∀ a, B = some a → a.block ≠ ob) → Rd (X5.setCell ⟨ob, i, none⟩ (.slice A 64 c)) B 64 d xs := fun B d xs hr hB => by
    refine ⟨hr.len, hr.cap, hr.max, hr.nil, fun hn => ?_⟩
    obtain ⟨b, off, rfl, hb, hc⟩ := hr.at_ hn
    exact ⟨b, off, rfl, by simpa using hb, fun j hj => (World.cell?_of_block (a := ⟨b, off + j, none⟩) (Below.heap_setCell X5 ⟨ob, i, none⟩ _ b (hB _ rfl))).trans (hc j hj)⟩
  refine ⟨(h.bel.trans (hb.mono h.bel.size)).setCell hob _, ?_, by simp [h.len], fun j hj => ?_⟩
  · have := (h.blk.below hb hol).put i (.slice A 64 c)
    simpa using this
  · rcases Nat.lt_or_ge j i with h1 | h1
    · obtain ⟨B, d, e1, e2, e3⟩ := h.row j h1
      refine ⟨B, d, by rw [List.getElem?_set_ne (by omega)]; exact e1, hk B d _ (e2.below hb) (fun a e => (e3 a e).2), e3⟩
    · obtain rfl : j = i := by omega
      exact ⟨A, c, by rw [List.getElem?_set_self (by rw [h.len]; exact hi)], hk A c _ hr (fun a e => by have := ha a e; omega), fun a e => by have := ha a e; have := h.bel.size; omega⟩
set_option maxHeartbeats 8000000 in
theorem sure_any (N : Nat) (w : World) (g : Nat) (D : Dk) (F : Nat → Prop) (t : Kn N w g D F) : Calls Tryz.prog 24 #[.pointer (some ⟨g, 0, none⟩)] w fun e w' =>
    ∃ A c F', e = .returned (.slice A D.sure.length c) ∧ Rs w' (fun b => w.heap.size ≤ b ∧ ¬ F' b) A D.sure.length c D.sure ∧ Kn N w' g D F' ∧ (∀ b, F' b → F b ∨ w.heap.size ≤ b) ∧ Mv N F w w' := by
  have T := Lib.hid t
  obtain ⟨ok, V, hb, r⟩ := t
  obtain ⟨k, hk⟩ : ∃ k, k = D.sure.length := ⟨_, rfl⟩
  have k256 : k ≤ 256 := by rw [hk]; exact ok.most
  have hmk := run_make_rows k k256
  rw [← hk] at hb
  have c0 : w.cell? ⟨g, 0, none⟩ = some (.slice (some ⟨V.sb, 0, none⟩) k k) := hb.cell 0
  have C0 := Lib.hid (show ∀ X, Below w.heap.size w X → X.cell? ⟨g, 0, none⟩ = some (.slice (some ⟨V.sb, 0, none⟩) k k) from fun X hX => (hb.below hX hb.lt).cell 0)
  have RS := Lib.hid (show ∀ X m, Below w.heap.size w X → m < k → Rd X (some ⟨V.sb, m * 64, none⟩) 64 64 (D.sure.getD m []) from fun X m hX hm => (rd_sector r.sure ok.rows (by omega) rfl).below hX)
  have GL := Lib.hid (r.gN g r.fg)
  have HK := Lib.hid hk
  have CL := Lib.hid (fun A n c xs X h h2 => clone_bs A n c xs X h h2)
  obtain ⟨ob, hob⟩ : ∃ ob, ob = w.heap.size := ⟨_, rfl⟩
  have HOB := Lib.hid hob
  have G0 := Lib.hid (show Gs w ob k 0 D.sure (List.replicate k (Value.slice none 0 0)) (w.alloc (.cells (List.replicate k (Value.slice none 0 0)).toArray 35)) from ⟨(Below.refl _ _).alloc (Nat.le_refl _) _, Bk.newAt _ _ _ _ hob.symm, by simp, fun j h => absurd h (by omega)⟩)
  have K256 := Lib.hid k256
  clear hb r ok hk k256
  generalize List.replicate k (Value.slice none 0 0) = Z at *
  go_enter Tryz.func24, Tryz.ntmps24
  go_upto_region 3 with (fail)
  go_loopw [13] (fun iv wr => ∃ (i : Nat) (vs : List Value), i ≤ k ∧ iv = .int .i64 (i : Int) ∧ Gs w ob k i D.sure vs wr)
    (fun iv _ => k - (intOf iv).toNat)
  case atStart => exact ⟨0, Z, Nat.zero_le _, rfl, G0.out⟩
  case round =>
    obtain ⟨i, vs, hik, rfl, hG⟩ := hrel
    have GR := Lib.hid hG
    have c1 : wr.cell? ⟨g, 0, none⟩ = some (.slice (some ⟨V.sb, 0, none⟩) k k) := C0.out wr hG.bel
    clear hG c0 hmk
    by_cases hlt : i < k
    · have t0 : (i : Int) < (k : Int) := by omega
      have HLT := Lib.hid hlt
      have e1 : wrap64 ((i : Int) + 1) = (i : Int) + 1 := by unfold wrap64; have := K256.out; omega
      obtain ⟨u5, hu5⟩ : ∃ u, vs.toArray[i]? = some u := ⟨vs[i]'(by rw [GR.out.len]; exact hlt), by rw [List.getElem?_toArray, List.getElem?_eq_getElem]⟩
      have HU5 := Lib.hid hu5
      clear hu5 hlt
      go_upto_region 6 with (first
        | (go_at_call 56; ((with_reducible refine (CL.out _ _ _ _ _ (RS.out _ i GR.out.bel HLT.out) (by decide)).mono ?_); rintro e w5 ⟨A5, c5, rfl, o5, b5⟩; have O5 := Lib.hid o5; have B5 := Lib.hid b5; have K5 := Lib.hid (GR.out.blk.below b5 GR.out.blk.lt); have k5 : w5.cell? ⟨w.heap.size, i, none⟩ = some u5 := (by rw [← HOB.out]; exact (K5.out.cell i).trans HU5.out); have z5 : w5.frozen? ⟨w.heap.size, i, none⟩ = false := (by rw [← HOB.out]; exact K5.out.frozen i); clear o5 b5)))
      go_wp2_with (fail)
      go_roundw
      case rel =>
        refine ⟨i + 1, vs.set i (.slice A5 64 c5), HLT.out, by go_num, ?_⟩
        rw [← HOB.out]
        exact GR.out.step HLT.out (by rw [HOB.out]; exact Nat.le_refl _) B5.out (Rd.own O5.out) (fun a e => (O5.out.lt a.block (by rw [e]; rfl)).1)
      case measure =>
        have h := HLT.out
        rw [e1]
        show k - (intOf (.int .i64 ((i : Int) + 1))).toNat < k - (intOf (.int .i64 (i : Int))).toNat
        have h1 : (intOf (.int .i64 ((i : Int) + 1))).toNat = i + 1 := by simp only [intOf]; omega
        have h2 : (intOf (.int .i64 (i : Int))).toNat = i := by simp only [intOf]; omega
        rw [h1, h2]
        omega
    · obtain rfl : i = k := by omega
      have t0 : ¬ (i : Int) < (i : Int) := by omega
      go_wp2_with (fail)
      go_ret
      rw [← HK.out]
      refine ⟨some ⟨w.heap.size, 0, none⟩, i, rfl, F, ?_, T.out.below GR.out.bel, fun b h => .inl h, Mv.of (by have := GL.out; omega) GR.out.bel⟩
      have hl := GR.out.blk.lt
      refine ⟨HK.out.symm, Nat.le_refl _, by simp only [maxLen]; have := K256.out; omega, fun e => (by cases e), fun hn => ⟨w.heap.size, 0, rfl, (by rw [← HOB.out]; exact hl), ⟨Nat.le_refl _, fun h => Nat.lt_irrefl _ (T.out.lt _ h).2⟩, fun j hj => ?_⟩⟩
      obtain ⟨A, c, e1, e2, e3⟩ := GR.out.row j hj
      refine ⟨A, 64, c, ?_, e2, fun a _ h => ⟨(e3 a h).1, fun hF => by have := (T.out.lt _ hF).2; have := (e3 a h).1; omega⟩⟩
      rw [← HOB.out, Nat.zero_add]
      exact (GR.out.blk.cell j).trans (by rw [List.getElem?_toArray]; exact e1)
end Go.Proofs.YtdbamdbdogdpjaaGreatDoor.S19

/-
  What the landed there, and the closure of its round, do. No statement is proved here.
-/
namespace Go.Proofs.YtdbamdbdogdpjaaGreatDoor.S19
set_option linter.unusedSimpArgs false
set_option linter.unusedVariables false
set_option maxRecDepth 8192
open Go.RowKit

/-- From which to which of its bytes a write is there. -/
def thF (c : Nat) : Nat := if c % 4 = 3 then c / 4 else 0
def thT (c : Nat) : Nat := if c % 4 = 1 then 64 else if c % 4 = 2 then c / 4 else if c % 4 = 3 then 64 else 0
theorem th_le {c : Nat} (h : c < 256) : thF c ≤ thT c ∧ thT c ≤ 64 := by
  unfold thF thT
  split <;> split <;> (try split) <;> (try split) <;> omega
theorem tdiv4 (c : Nat) : (c : Int).tdiv 4 = ((c / 4 : Nat) : Int) := by rw [Int.tdiv_eq_ediv_of_nonneg (by omega)]; rfl
theorem tmod4 (c : Nat) : (c : Int).tmod 4 = ((c % 4 : Nat) : Int) := by rw [Int.tmod_eq_emod_of_nonneg (by omega)]; rfl
set_option maxHeartbeats 1000000 in
theorem there_any (c : Nat) (hc : c < 256) (w : World) : Calls Tryz.prog 48 #[.int .u8 (c : Int)] w fun e w' => e = .returned (.tuple #[.int .i64 (thF c : Int), .int .i64 (thT c : Int)]) ∧ w = w' := by
  have h1 := tdiv4 c
  have h2 := tmod4 c
  obtain ⟨q, hq⟩ : ∃ q, q = c / 4 := ⟨_, rfl⟩
  rw [← hq] at h1
  have hF : thF c = if c % 4 = 3 then q else 0 := by rw [hq]; rfl
  have hT : thT c = if c % 4 = 1 then 64 else if c % 4 = 2 then q else if c % 4 = 3 then 64 else 0 := by rw [hq]; rfl
  have h64 : q < 64 := by omega
  have w1 : IntKind.u8.wrap (q : Int) = (q : Int) := by rw [IntKind.wrap_u8]; omega
  have w2 : IntKind.i64.wrap (q : Int) = (q : Int) := by rw [IntKind.wrap_i64]; omega
  have hr : c % 4 = 0 ∨ c % 4 = 1 ∨ c % 4 = 2 ∨ c % 4 = 3 := by omega
  rw [hF, hT]
  clear hF hT hq
  rcases hr with hr | hr | hr | hr
  all_goals
    rw [hr] at h2 ⊢
    simp only [reduceIte, Nat.reduceEqDiff]
    go_enter Tryz.func48, Tryz.ntmps48
    go_wp2
    go_ret2
    exact ⟨rfl, rfl⟩
/-- How far the choices are counted. -/
def cntC (n k : Nat) : Nat := if n = 0 then 0 else k
set_option maxHeartbeats 2000000 in
/-- The next choice. -/
theorem next_any (w : World) (pb ib : Nat) (A : Option Addr) (n c : Nat) (ch : List UInt8) (k : Nat) (hk : k + 1 ≤ 9223372036854775807) (h1 : Bk w pb 35 #[.slice A n c]) (h2 : Bk w ib 3 #[.int .i64 (cntC n k : Int)]) (hr : Rd w A n c ch) :
    Calls Tryz.prog 72 #[.pointer (some ⟨pb, 0, none⟩), .pointer (some ⟨ib, 0, none⟩)] w fun e w' => e = .returned (.int .u8 (Dk.choice ch k : Int)) ∧ Bk w' ib 3 #[.int .i64 (cntC n (k + 1) : Int)] ∧ w.grownBy w' (some ib) := by
  have a0 : w.cell? ⟨pb, 0, none⟩ = some (.slice A n c) := h1.cell 0
  have hl := hr.len
  rcases Nat.eq_zero_or_pos n with h0 | h0
  · subst h0
    obtain rfl : ch = [] := List.eq_nil_of_length_eq_zero hl
    rw [show Dk.choice [] k = 0 from rfl]
    go_enter Tryz.func72, Tryz.ntmps72
    go_wp2
    go_ret
    exact ⟨rfl, h2, World.grownBy.refl _ _⟩
  · have hne : n ≠ 0 := by omega
    have hch : ch ≠ [] := fun e => by rw [e] at hl; simp at hl; omega
    have e1 : cntC n k = k := by simp [cntC, hne]
    have e2 : cntC n (k + 1) = k + 1 := by simp [cntC, hne]
    rw [e1] at h2
    rw [e2]
    obtain ⟨m, hm⟩ : ∃ m, m = k % n := ⟨_, rfl⟩
    have hmn : m < n := by rw [hm]; exact Nat.mod_lt _ h0
    have e3 : Dk.choice ch k = (ch.getD m 0).toNat := by simp [Dk.choice, hch, hl, hm]
    rw [e3]
    obtain ⟨b, off, rfl, hb, hc⟩ := hr.at_ h0
    have hcm := hc m hmn
    have t1 : (k : Int).tmod (n : Int) = (m : Int) := by rw [Int.tmod_eq_emod_of_nonneg (by omega), hm]; rfl
    have q1 : ((n : Int) == 0) = false := by simp; omega
    have m1 : (m : Int) < (n : Int) := by omega
    have w0 : wrap64 (m : Int) = (m : Int) := by unfold wrap64; have := hr.cap; have := hr.max; simp only [maxLen] at this; omega
    have w1 : wrap64 ((k : Int) + 1) = ((k + 1 : Nat) : Int) := by unfold wrap64; omega
    have H1 := Lib.hid h1
    have H2 := Lib.hid h2
    have HR := Lib.hid hr
    have A0 := Lib.hid (show w.drew.cell? ⟨pb, 0, none⟩ = some (.slice (some ⟨b, off, none⟩) n c) from a0)
    have A1 := Lib.hid (show w.drew.cell? ⟨ib, 0, none⟩ = some (.int .i64 (k : Int)) from h2.cell 0)
    have A2 := Lib.hid (show w.drew.cell? ⟨b, off + m, none⟩ = some (.int .u8 ((ch.getD m 0).toNat : Int)) from hcm)
    obtain ⟨cv, hcv⟩ : ∃ cv : Int, cv = ((ch.getD m 0).toNat : Int) := ⟨_, rfl⟩
    rw [← hcv] at A2 ⊢
    have k2 : w.drew.cell? ⟨ib, 0, none⟩ = some (.int .i64 (k : Int)) := h2.cell 0
    have z2 : w.drew.frozen? ⟨ib, 0, none⟩ = false := h2.frozen 0
    clear h1 h2 hr hl hc hcm hm hch e1 e2 e3 hcv hk
    have h0' : ¬ (n : Int) = 0 := by omega
    go_enter Tryz.func72, Tryz.ntmps72
    go_upto_region 3 with (fail)
    (go_region_held3 (fun X => X.cell? ⟨pb, 0, none⟩ = some (.slice (some ⟨b, off, none⟩) n c) ∧ X.cell? ⟨ib, 0, none⟩ = some (.int .i64 (k : Int)) ∧ X.cell? ⟨b, off + m, none⟩ = some (.int .u8 cv)) (exact ⟨A0.out, A1.out, A2.out⟩) (fail))
    go_wp2_with (fail)
    go_ret
    refine ⟨rfl, H2.out.drew.put 0 _, ?_⟩
    exact only_put (show w.grownBy w.drew (some ib) from ⟨rfl, rfl, rfl, Nat.le_refl _, fun _ _ _ => rfl⟩) (.inl rfl) _
set_option maxHeartbeats 1000000 in
theorem round_any (w : World) (A : Option Addr) (n c : Nat) : Calls Tryz.prog 47 #[.slice A n c] w fun e w' => e = .returned (.func (.func 72) #[] #[.pointer (some ⟨w.heap.size, 0, none⟩), .pointer (some ⟨w.heap.size + 1, 0, none⟩)]) ∧
    Bk w' w.heap.size 35 #[.slice A n c] ∧ Bk w' (w.heap.size + 1) 3 #[.int .i64 0] ∧ Below w.heap.size w w' ∧ w'.heap.size = w.heap.size + 2 := by
  have hmf : ∀ (fn : Fn) (first cap : Array Value) (w : World), (Instr.makeFunc fn first cap).run Tryz.prog w = .ok (.func fn first cap) w := fun _ _ _ _ => rfl
  have k1 : ((w.alloc (.cells #[.slice A n c] 35)).alloc (.cells #[.int .i64 0] 3)).cell? ⟨w.heap.size + 1, 0, none⟩ = some (.int .i64 0) := (Bk.newAt (w.alloc (.cells #[.slice A n c] 35)) 3 #[.int .i64 0] (w.heap.size + 1) (by simp)).cell 0
  have z1 := (Bk.newAt (w.alloc (.cells #[.slice A n c] 35)) 3 #[.int .i64 0] (w.heap.size + 1) (by simp)).frozen 0
  go_enter Tryz.func47, Tryz.ntmps47
  go_wp2
  go_ret
  refine ⟨rfl, (Bk.newAt w _ _ w.heap.size rfl).alloc _, Bk.newAt _ _ _ (w.heap.size + 1) (by simp), ((Below.refl _ _).alloc (Nat.le_refl _) _).alloc (by simp) _, by simp⟩
end Go.Proofs.YtdbamdbdogdpjaaGreatDoor.S19

/-
  A part of a sector is written over by what was pending: in plain words, and as the landed Up does it. No statement is proved here.
-/
namespace Go.Proofs.YtdbamdbdogdpjaaGreatDoor.S19
set_option linter.unusedSimpArgs false
set_option linter.unusedVariables false
set_option maxRecDepth 8192
open Go.RowKit

theorem tears_iff {c i : Nat} (hi : i < 64) : tears c i ↔ thF c ≤ i ∧ i < thT c := by
  unfold tears thF thT
  have hr : c % 4 = 0 ∨ c % 4 = 1 ∨ c % 4 = 2 ∨ c % 4 = 3 := by omega
  rcases hr with hr | hr | hr | hr <;> simp [hr] <;> omega
theorem torn_cut {c : Nat} (hc : c < 256) {old now : List UInt8} (lo : old.length = 64) (ln : now.length = 64) : old.take (thF c) ++ (now.drop (thF c)).take (thT c - thF c) ++ old.drop (thT c) = Dk.torn c old now := by
  obtain ⟨h1, h2⟩ := th_le hc
  rw [← tornP_full]
  apply List.ext_getElem (by simp [tornP, lo, ln]; omega)
  intro i a1 a2
  have hi : i < 64 := by simpa [tornP] using a2
  have e := tears_iff (c := c) hi
  have e2 : (tornP c old now 64)[i]'a2 = if tears c i then now.getD i 0 else old.getD i 0 := by simp [tornP, hi]
  refine Eq.trans ?_ e2.symm
  simp only [List.getElem_append, List.length_take, List.length_append, List.length_drop, lo, ln, List.getElem_take, List.getElem_drop]
  by_cases q1 : i < thF c
  · have q2 : ¬ tears c i := fun h => by have := e.1 h; omega
    have q3 : i < min (thF c) 64 := by omega
    have q4 : i < min (thF c) 64 + min (thT c - thF c) (64 - thF c) := by omega
    simp [q2, q3, q4, List.getD, lo, hi]
  · by_cases q2 : i < thT c
    · have q3 : tears c i := e.2 ⟨by omega, q2⟩
      have q4 : i < min (thF c) 64 + min (thT c - thF c) (64 - thF c) := by omega
      have q5 : ¬ i < min (thF c) 64 := by omega
      have q6 : thF c + (i - min (thF c) 64) = i := by omega
      simp [q3, q4, q5, q6, List.getD, ln, hi]
    · have q3 : ¬ tears c i := fun h => by have := e.1 h; omega
      have q4 : ¬ i < min (thF c) 64 + min (thT c - thF c) (64 - thF c) := by omega
      have q6 : thT c + (i - (min (thF c) 64 + min (thT c - thF c) (64 - thF c))) = i := by omega
      simp [q3, q4, q6, List.getD, lo, hi]
theorem copy_part (W : World) (ty : TypeId) (sb wb m f t : Nat) (z : Int) (T T' : TypeId) (s : List (List UInt8)) (b : List UInt8) (hs : Bk W sb T (rowsV s).toArray) (hw : Bk W wb T' (Value.int .i64 z :: bv b).toArray) (hr : ∀ x ∈ s, x.length = 64) (hb : b.length = 64) (hm : m < s.length) (h1 : f ≤ t) (h2 : t ≤ 64) :
    (Builtin.copy_ #[35, 35] ty #[.slice (some ⟨sb, m * 64 + f, none⟩) (t - f) (64 - f), .slice (some ⟨wb, 1 + f, none⟩) (t - f) (64 - f)]).run Tryz.prog W =
      .ok (goInt ((t - f : Nat) : Int)) (W.setRow sb (rowsV (s.set m ((s.getD m []).take f ++ (b.drop f).take (t - f) ++ (s.getD m []).drop t))).toArray) := by
  have hx := hr _ (getD_mem hm)
  have hl := rowsV_len hr
  have lc : (bv ((b.drop f).take (t - f))).length = t - f := by rw [bv_length, List.length_take, List.length_drop, hb]; omega
  have h := run_copy_row (P := Tryz.prog) W 35 35 ty 5 sb (m * 64 + f) (t - f) (64 - f) ⟨wb, 1 + f, none⟩ (t - f) (64 - f) (rowsV s).toArray T (bv ((b.drop f).take (t - f))) Tryz.underlying35 (by kernel_rfl) hs (by rw [lc]; simp) (fun j v hj => by
    have e : (⟨wb, 1 + f, none⟩ : Addr).add j = ⟨wb, 1 + f + j, none⟩ := by unfold Addr.add; split <;> simp_all
    have hj2 : j < t - f := by
      rcases Nat.lt_or_ge j (t - f) with h | h
      · exact h
      · rw [List.getElem?_eq_none (by omega)] at hj; cases hj
    rw [e, hw.cell, List.getElem?_toArray, show 1 + f + j = (f + j) + 1 by omega, List.getElem?_cons_succ]
    rw [bv_at _ j (by simp [hb]; omega)] at hj
    rw [bv_at _ (f + j) (by omega), ← hj]
    simp) (by simp [lc, hl]; omega) (bv_one _)
  rw [h, lc]
  congr 2
  have hL := take_rows hr m (Nat.le_of_lt hm)
  have e := rowsV_split hm
  rw [rowsV_set hm]
  generalize s.getD m [] = x at hx e ⊢
  simp only [List.toList_toArray, lc]
  rw [e]
  congr 1
  rw [show m * 64 + f = 64 * m + f by omega, show 64 * m + f + (t - f) = 64 * m + t by omega]
  generalize rowsV (s.take m) = L at hL ⊢
  generalize rowsV (s.drop (m + 1)) = R
  rw [List.append_assoc L (bv x) R, ← hL, List.take_length_add_append, List.drop_length_add_append, List.take_append_of_le_length (by rw [bv_length]; omega), List.drop_append_of_le_length (by rw [bv_length]; omega)]
  rw [show (bv x).take f = bv (x.take f) by simp [bv, List.map_take], show (bv x).drop t = bv (x.drop t) by simp [bv, List.map_drop]]
  simp [bv_append, List.append_assoc]
/-- What is pending lies in cells, one write behind the other. -/
theorem pend_range {w : World} {B : Nat} {v : Value} {p : List (Nat × List UInt8)} (h : w.ownsRow B 98 65 v p.length (pendV p)) (hp : ∀ q ∈ p, q.2.length = 64) {k : Nat} (hk : k < p.length) :
    ∃ b c, v = .slice (some ⟨b, 0, none⟩) p.length c ∧ w.rangeAt b (k * 65) (Value.int .i64 (p[k].1 : Int) :: bv p[k].2) := by
  rcases h.2 with ⟨_, h0⟩ | ⟨b, cap, cur, rfl, _⟩
  · omega
  · refine ⟨b, cap, rfl, fun j v hj => ?_⟩
    have hq := hp _ (List.getElem_mem hk)
    have hj2 : j < 65 := by
      have := (List.getElem?_eq_some_iff.1 hj).1
      simp [bv_length, hq] at this
      exact this
    rw [h.cellAt (k * 65 + j) (by
      have : k * 65 + 65 ≤ p.length * 65 := by rw [show k * 65 + 65 = (k + 1) * 65 by omega]; exact Nat.mul_le_mul_right 65 hk
      omega), pend_split hk, List.append_assoc, List.getElem?_append_right (by rw [take_pend hp k (Nat.le_of_lt hk)]; omega), take_pend hp k (Nat.le_of_lt hk), show k * 65 + j - 65 * k = j by omega, List.getElem?_append_left (by simp [bv_length, hq]; omega)]
    exact hj
/-- A sector that is sure has turned. -/
theorem In.sureSet {N : Nat} {w : World} {g : Nat} {sure now : List (List UInt8)} {pend : List (Nat × List UInt8)} {fails : List Int} {F : Nat → Prop} {V : KnV} (r : In N w g sure now pend fails F V) (s' : List (List UInt8)) :
    In N (w.setRow V.sb (rowsV s').toArray) g s' now pend fails F V := by
  have hs : (w.setRow V.sb (rowsV s').toArray).heap.size = w.heap.size := by simp [World.setRow]
  have hk : ∀ b, b ≠ V.sb → (w.setRow V.sb (rowsV s').toArray).heap[b]? = w.heap[b]? := fun b hb => setRow_other w V.sb b _ hb
  exact ⟨r.sure.row _, (hk _ r.d3.symm).trans r.now, own_keepH r.pend fun b hb _ => hk _ (r.dP b hb).2.1, r.fl.keep (by omega) fun a h1 h2 _ => hk _ (r.dF a h1 h2).2.1, r.few, r.mem, r.srt, r.fg, r.fs, r.fnn, r.fp, r.ff, fun b hb => by rw [hs]; exact r.gN b hb, r.d1, r.d2, r.d3, r.dP, r.dF⟩
end Go.Proofs.YtdbamdbdogdpjaaGreatDoor.S19
