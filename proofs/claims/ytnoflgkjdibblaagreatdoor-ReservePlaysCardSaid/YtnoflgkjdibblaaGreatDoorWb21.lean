/-
  Texts put together: RvU, Rv8, RvH, RvX. No statement is proved here.
-/
import Derived.Test.YtnoflgkjdibblaaGreatDoorWb20
import Derived.Test.YtnoflgkjdibblaaGreatDoorWb19
import Derived.Test.YtnoflgkjdibblaaGreatDoorWb06
import Derived.Test.YtnoflgkjdibblaaGreatDoorWb13
import Derived.Test.YtnoflgkjdibblaaGreatDoorWb18
import Derived.Test.YtnoflgkjdibblaaGreatDoorWb09

/-
  A step of ReservePlays on both sides, one call behind the other: opened, taken, retired, laid anew. No statement is proved here.
-/
namespace Go.Proofs.YtnoflgkjdibblaaGreatDoor.S21
set_option linter.unusedSimpArgs false
set_option linter.unusedVariables false
set_option maxRecDepth 4096
open Go.RowKit S19 S20

section
variable {M : DC} {C : SlC M} {N : Nat} {X : World} {g s cc h q kc k : Nat} {L : Value} {D : Dk} {Z : Sl} {x : Cn} {hd : List UInt8} {F S U G R T V : Nat → Prop}
theorem both_open (K : RvC M C) (t : Bo M C N X g s h q L k D Z D Z F S G R T) (hk : K.ok X) :
    Calls Tryz.prog 21 #[.pointer (some ⟨s, 0, none⟩)] X fun e w' => ∃ p, e = .returned (.tuple #[.pointer p, .int .i64 (Cn.openC Z D : Int)]) ∧ Below N X w' ∧
      ∀ Y, Below w'.heap.size w' Y → Calls Tryz.prog 22 #[.pointer (some ⟨q, 0, none⟩)] Y fun e w'' => ∃ kc k', e = .returned (.tuple #[.pointer (some ⟨kc, 0, none⟩), .int .i64 (Cn.openC Z D : Int)]) ∧ k' ≤ k + 1 ∧ PlC M C K N w'' g s h q kc (.pointer p) D (Z.load D) k' ∧ Below N Y w'' := by
  refine (open1 K t hk).mono ?_
  rintro e w' ⟨p, F', S', h1, h2, h3, h4⟩
  refine ⟨p, h1, h4, fun Y hY => ?_⟩
  by_cases z : Cn.openC Z D = 0
  · obtain ⟨cc, U, rfl, hL⟩ := h3 z
    have hL' := hL.grow hY
    refine (ropen21_any N Y h q L k D Z G R T hL'.qs).mono fun e w'' p => ?_
    obtain ⟨kc, L', k', G', R', T', V, q1, q2, q3, q4⟩ := PostO.o hL' p z
    exact ⟨kc, k', q1, q2, .inl ⟨cc, L', _, _, F', S', U, G', R', T', V, rfl, (Cn.open_ok z).1, q3⟩, q4⟩
  · obtain ⟨rfl, hB⟩ := h2 z
    have hB' := hB.grow hY
    refine (ropen21_any N Y h q L k D Z G R T hB'.qs).mono fun e w'' p => ?_
    obtain ⟨kc, L', k', G', R', T', q1, q2, q3, q4⟩ := PostO.z hB' p z
    exact ⟨kc, k', q1, q2, .inr ⟨L', F', S', G', R', T', rfl, q3⟩, q4⟩
theorem both_take (K : RvC M C) (t : Po M C K N X g s cc h q kc L k D Z x hd D Z x hd F S U G R T V) (hk : K.ok X) (ho : x.Ok hd.length) (hc : D.cnt < 1099511600000) (hkk : k < 1000000) :
    Calls Tryz.prog 13 #[.pointer (some ⟨cc, 0, none⟩)] X fun e w' => e = .returned (.tuple #[.int .u64 (x.takeN hd Z D : Int), .int .i64 (x.takeC hd Z D : Int)]) ∧ Below N X w' ∧
      ∀ Y, Below w'.heap.size w' Y → Calls Tryz.prog 14 #[.pointer (some ⟨kc, 0, none⟩)] Y fun e w'' => e = .returned (.tuple #[.int .u64 (x.takeN hd Z D : Int), .int .i64 (x.takeC hd Z D : Int)]) ∧ (∃ k', k' ≤ k + 1 ∧ PlC M C K N w'' g s h q kc (.pointer (some ⟨cc, 0, none⟩)) (x.takeD hd Z D) (x.takeZ hd Z D) k') ∧ Below N Y w'' := by
  refine (t.take1 hk ho hc).mono ?_
  rintro e w' ⟨F', S', U', h1, h2, h3⟩
  refine ⟨h1, h3, fun Y hY => ((h2.grow hY).take2 ho hc hkk).mono ?_⟩
  rintro e w'' ⟨L', k', G', R', T', q1, q2, q3, q4⟩
  exact ⟨q1, ⟨k', q2, .inl ⟨cc, L', _, hd, F', S', U', G', R', T', V, rfl, Cn.take_ok ho hd Z D, q3⟩⟩, q4⟩
theorem both_ret (K : RvT M C) (t : Po M C K.toRvC N X g s cc h q kc L k D Z x hd D Z x hd F S U G R T V) (hk : K.ok X) (ho : x.Ok hd.length) (hc : D.cnt < 1099511600000) (hkk : k < 1000000) :
    Calls Tryz.prog 15 #[.pointer (some ⟨cc, 0, none⟩)] X fun e w' => e = .returned (.int .i64 (x.retC hd Z D : Int)) ∧ Below N X w' ∧
      ∀ Y, Below w'.heap.size w' Y → Calls Tryz.prog 16 #[.pointer (some ⟨kc, 0, none⟩)] Y fun e w'' => e = .returned (.int .i64 (x.retC hd Z D : Int)) ∧ (∃ k', k' ≤ k + 1 ∧ PlC M C K.toRvC N w'' g s h q kc (.pointer (some ⟨cc, 0, none⟩)) (x.retD hd Z D) (x.retZ hd Z D) k') ∧ Below N Y w'' := by
  refine (t.ret1 K hk ho hc).mono ?_
  rintro e w' ⟨F', S', U', h1, h2, h3⟩
  refine ⟨h1, h3, fun Y hY => ((h2.grow hY).ret2 ho hc hkk).mono ?_⟩
  rintro e w'' ⟨L', k', G', R', T', q1, q2, q3, q4⟩
  exact ⟨q1, ⟨k', q2, .inl ⟨cc, L', _, hd, F', S', U', G', R', T', V, rfl, Cn.ret_ok ho hd Z D, q3⟩⟩, q4⟩
/-- The counters are dropped. -/
theorem PlC.bo {K : RvC M C} {cv : Value} (t : PlC M C K N X g s h q kc cv D Z k) : ∃ L F S G R T, Bo M C N X g s h q L k D Z D Z F S G R T := by
  rcases t with ⟨cc, L, x, hd, F, S, U, G, R, T, V, _, _, h⟩ | ⟨L, F, S, G, R, T, _, h⟩
  · exact ⟨L, F, S, G, R, T, h.bo⟩
  · exact ⟨L, F, S, G, R, T, h.bo⟩
theorem PlC.grow {K : RvC M C} {cv : Value} {Y : World} (t : PlC M C K N X g s h q kc cv D Z k) (hb : Below X.heap.size X Y) : PlC M C K N Y g s h q kc cv D Z k := by
  rcases t with ⟨cc, L, x, hd, F, S, U, G, R, T, V, h1, h2, h⟩ | ⟨L, F, S, G, R, T, h1, h⟩
  · exact .inl ⟨cc, L, x, hd, F, S, U, G, R, T, V, h1, h2, h.grow hb⟩
  · exact .inr ⟨L, F, S, G, R, T, h1, h.grow hb⟩
end
end Go.Proofs.YtnoflgkjdibblaaGreatDoor.S21

/-
  The walk of layer 21's sixth statement (ReserveRows), over the contracts. No statement is proved here. (Written by genrv8.py.)
-/
namespace Go.Proofs.YtnoflgkjdibblaaGreatDoor.S21
set_option linter.unusedSimpArgs false
set_option linter.unusedVariables false
set_option maxRecDepth 4096
open Go.RowKit S19 S20

end Go.Proofs.YtnoflgkjdibblaaGreatDoor.S21

/-
  The walk of layer 21's first statement (ReserveBytes), over the contracts. No statement is proved here. (Written by genrvh.py.)
-/
namespace Go.Proofs.YtnoflgkjdibblaaGreatDoor.S21
set_option linter.unusedSimpArgs false
set_option linter.unusedVariables false
set_option maxRecDepth 4096
open Go.RowKit S19 S20

/-- '!=' of a counter and itself. -/
theorem run_neq_Cn (x : Cn) (W : World) : (binOp .neq 46 (.agg x.cells) (.agg x.cells)).run Tryz.prog W = .ok (.bool false) W := by
  have h := run_eql_Cn x x W
  rw [run_eql_struct W] at h
  rw [run_neq_struct W]
  revert h
  generalize (Op.equalIn 10000 46 (.agg x.cells) (.agg x.cells)).run Tryz.prog W = r
  intro h
  cases r with
  | ok b w' =>
    simp only [Result.andThen_ok, Result.ok.injEq, Value.bool.injEq, decide_true] at h
    obtain ⟨rfl, rfl⟩ := h
    rfl
  | _ => cases h
end Go.Proofs.YtnoflgkjdibblaaGreatDoor.S21

/-
  A step of ReservePlays beside which a block of its own lies apart: plans, losses of power, slots laid anew on both sides; what is compared at its end. No statement is proved here.
-/
namespace Go.Proofs.YtnoflgkjdibblaaGreatDoor.S21
set_option linter.unusedSimpArgs false
set_option linter.unusedVariables false
set_option maxRecDepth 4096
open Go.RowKit S19 S20

/-- Both sides, and a block apart. -/
structure Bp (M : DC) (C : SlC M) (N : Nat) (w : World) (g s h q : Nat) (L : Value) (k : Nat) (D : Dk) (Z : Sl) (D2 : Dk) (Z2 : Sl) (F S G R T : Nat → Prop) (pa : Nat) (t0 : TypeId) (cs : Array Value) : Prop where
  bo : Bo M C N w g s h q L k D Z D2 Z2 F S G R T
  pk : Bk w pa t0 cs
  p1 : ¬ Or2 F S pa
  p2 : ¬ Or3 G R T pa
section
variable {M : DC} {C : SlC M} {N : Nat} {w w' X Y : World} {g s s' h q q' kc k k' pa : Nat} {t0 : TypeId} {cs : Array Value} {L L' : Value} {D D' D2 D2' : Dk} {Z Z' Z2 Z2' : Sl} {F S G R T F' S' G' R' T' : Nat → Prop}
theorem Bp.left (t : Bp M C N w g s h q L k D Z D2 Z2 F S G R T pa t0 cs) (l : Lz M C N w' g s' D' Z' F' S') (hs : ∀ b, Or2 F' S' b → Or2 F S b ∨ w.heap.size ≤ b) (m : Mv N (Or2 F S) w w') : Bp M C N w' g s' h q L k D' Z' D2 Z2 F' S' G R T pa t0 cs :=
  ⟨t.bo.left l hs m, m.bk t.pk t.p1, fun e => (hs pa e).elim t.p1 fun e => by have := t.pk.lt; omega, t.p2⟩
theorem Bp.right (t : Bp M C N w g s h q L k D Z D2 Z2 F S G R T pa t0 cs) (l : Qs N w' h q' L' k' D2' Z2' G' R' T') (hs : ∀ b, Or3 G' R' T' b → Or3 G R T b ∨ w.heap.size ≤ b) (m : Mv N (Or3 G R T) w w') : Bp M C N w' g s h q' L' k' D Z D2' Z2' F S G' R' T' pa t0 cs :=
  ⟨t.bo.right l hs m, m.bk t.pk t.p2, t.p1, fun e => (hs pa e).elim t.p2 fun e => by have := t.pk.lt; omega⟩
theorem Bp.grow (t : Bp M C N w g s h q L k D Z D2 Z2 F S G R T pa t0 cs) (hb : Below w.heap.size w w') : Bp M C N w' g s h q L k D Z D2 Z2 F S G R T pa t0 cs := ⟨t.bo.grow hb, t.pk.below hb t.pk.lt, t.p1, t.p2⟩
theorem PlC.bp {K : RvC M C} {cv : Value} (t : PlC M C K N w g s h q kc cv D Z k) (hb : Below w.heap.size w X) (hpa : w.heap.size ≤ pa) (tb : Bk X pa t0 cs) : ∃ L F S G R T, Bp M C N X g s h q L k D Z D Z F S G R T pa t0 cs := by
  obtain ⟨L, F, S, G, R, T, hB⟩ := t.bo
  exact ⟨L, F, S, G, R, T, hB.grow hb, tb, fun e => by have := (hB.lz.lt _ e).2; omega, fun e => by have := (hB.qs.lt _ e).2; omega⟩
/-- Up on the landed side, and on the document's. -/
theorem Bp.up1 (t : Bp M C N w g s h q L k D Z D2 Z2 F S G R T pa t0 cs) (hk : C.ok w) {A' : Option Addr} {n' c' : Nat} {ch : List UInt8} (hch : Rd w A' n' c' ch) (hA' : ∀ a, 0 < n' → A' = some a → a.block < N) {A : Option Addr} {n c : Nat} {fs : List Int} {st : Int} (hfs : RI w .i64 A n c fs) (hA : ∀ a, 0 < n → A = some a → a.block < N) (hn : n ≤ 1099511627776) :
    Calls Tryz.prog 19 #[.pointer (some ⟨g, 0, none⟩), .slice A' n' c', .agg #[.slice A n c, .int .i64 st]] w fun e w' => e = .returned (.tuple #[]) ∧ (∃ F', Bp M C N w' g s h q L k (D.up ch fs st) Z D2 Z2 F' S G R T pa t0 cs) ∧ Below N w w' := by
  refine (M.up N w g D F A' n' c' ch A n c fs st (C.okM hk) t.bo.lz.is hch (fun a h1 h2 h3 => by have := hA' a h1 h2; have := (M.lt t.bo.lz.is _ h3).1; omega) hfs (fun a h1 h2 h3 => by have := hA a h1 h2; have := (M.lt t.bo.lz.is _ h3).1; omega) hn).mono ?_
  rintro e w' ⟨h1, F', h2, h3, h4⟩
  have h3' : ∀ b, F' b → F b ∨ w.heap.size ≤ b := fun b hb => by
    rcases h3 b hb with e | e | ⟨e1, x, e2, e3, e4⟩
    · exact .inl e
    · exact .inr e
    · have := hA x e2 e3; omega
  exact ⟨h1, ⟨F', t.left (t.bo.lz.disk h2 h3' h4 (Dk.tear_len _ _ _ _)) (sub_disk h3') (h4.mono fun b hb => .inl hb)⟩, h4.bel⟩
theorem Bp.up2 (t : Bp M C N w g s h q L k D Z D2 Z2 F S G R T pa t0 cs) {A' : Option Addr} {n' c' : Nat} {ch : List UInt8} (hch : Rd w A' n' c' ch) (hA' : ∀ a, 0 < n' → A' = some a → a.block < N) {A : Option Addr} {n c : Nat} {fs : List Int} {st : Int} (hfs : RI w .i64 A n c fs) (hA : ∀ a, 0 < n → A = some a → a.block < N) :
    Calls Tryz.prog 20 #[.pointer (some ⟨h, 0, none⟩), .slice A' n' c', .agg #[.slice A n c, .int .i64 st]] w fun e w' => e = .returned (.tuple #[]) ∧ (∃ G', Bp M C N w' g s h q L k D Z (D2.up ch fs st) Z2 F S G' R T pa t0 cs) ∧ Below N w w' :=
  (rupD_any N w h D2 G t.bo.qs.rk A' n' c' ch hch hA' A n c fs st hfs hA).mono fun e w' ⟨h1, G', h2, h3, h4⟩ => ⟨h1, ⟨G', t.right (t.bo.qs.disk h2 h3 h4 (Dk.tear_len _ _ _ _)) (sub_disk3 h3) (h4.mono fun b hb => .inl hb)⟩, h4.bel⟩
/-- Slots anew on the landed side, and on the document's. -/
theorem Bp.slots1 (t : Bp M C N w g s h q L k D Z D2 Z2 F S G R T pa t0 cs) (hk : C.ok w) (hl : D.sure.length = 16) :
    Calls Tryz.prog 8 #[.pointer (some ⟨g, 0, none⟩), .int .i64 0, .int .i64 8] w fun e w' => ∃ s', e = .returned (.tuple #[.pointer (some ⟨s', 0, none⟩), .int .i64 0]) ∧ (∃ F' S', Bp M C N w' g s' h q L k D (Sl.new 0 8) D2 Z2 F' S' G R T pa t0 cs) ∧ Below N w w' :=
  have hm : may D.sure.length ((0 : Nat) : Int) ((8 : Nat) : Int) = true := decide_eq_true (by omega)
  (C.new N w g D F 0 8 hk t.bo.lz.is hm).mono fun e w' ⟨s', S', F', h1, h2, h3, h4, h5, h6, h7⟩ => ⟨s', h1, ⟨F', S', t.left ⟨h3, h2, h6, new_ok hm⟩ (fun b hb => hb.elim (fun e => (h5 b e).imp .inl id) fun e => .inr (h4 b e)) (h7.mono fun b hb => .inl hb)⟩, h7.bel⟩
theorem Bp.slots2 (t : Bp M C N w g s h q L k D Z D2 Z2 F S G R T pa t0 cs) (hl : D2.sure.length = 16) :
    Calls Tryz.prog 9 #[.pointer (some ⟨h, 0, none⟩), .int .i64 0, .int .i64 8] w fun e w' => ∃ q', e = .returned (.pointer (some ⟨q', 0, none⟩)) ∧ (∃ R', Bp M C N w' g s h q' L k D Z D2 (Sl.new 0 8) F S G R' T pa t0 cs) ∧ Below N w w' :=
  have hm : may D2.sure.length ((0 : Nat) : Int) ((8 : Nat) : Int) = true := decide_eq_true (by omega)
  have hN := rk_loN t.bo.qs.rk
  (rnew20_any N w hN h 0 8).mono fun e w' ⟨q', h1, h2, h3, h4⟩ => ⟨q', h1, ⟨fun b => b = q', t.right ⟨t.bo.qs.rk.grow h4, h2, (t.bo.qs.grow h4).ld, new_ok hm, fun b hG e => by have := (t.bo.qs.rk.lt b hG).2; omega, t.bo.qs.gt, fun b e hT => by have := (t.bo.qs.ld.lt b hT).2; omega⟩ (fun b hb => by
    rcases hb with e | e | e
    · exact .inl (.inl e)
    · exact .inr (by omega)
    · exact .inl (.inr (.inr e))) (Mv.of hN h4)⟩, h4.mono hN⟩
/-- The plan is set on the landed side; then the document's own cells are set. -/
theorem PlC.plan1 {K : RvC M C} {cv : Value} (t : PlC M C K N w g s h q kc cv D Z k) (hb : Below w.heap.size w X) (hpa : w.heap.size ≤ pa) (tb : Bk X pa t0 cs) (hk : C.ok X) {A : Option Addr} {n c : Nat} {fs : List Int} {st : Int} (hfs : ∀ Y, Below N X Y → RI Y .i64 A n c fs) (hA : ∀ a, 0 < n → A = some a → a.block < N) (hn : n ≤ 1099511627776) :
    Calls Tryz.prog 17 #[.pointer (some ⟨g, 0, none⟩), .agg #[.slice A n c, .int .i64 st]] X fun e w' => e = .returned (.tuple #[]) ∧ Bk w' pa t0 cs ∧ (∃ L V, Bk w' h 62 #[L, S19.RkV.vS V, V.vW, V.vB, .slice V.AF V.nF V.cF, .int .i64 D.stop, .int .i64 (D.cnt : Int), .bool D.off]) ∧ PlC M C K N ((w'.setCell ⟨h, 4, none⟩ (.slice A n c)).setCell ⟨h, 5, none⟩ (.int .i64 st)) g s h q kc cv (D.plan fs st) Z k ∧ Below N X w' ∧ Below N X ((w'.setCell ⟨h, 4, none⟩ (.slice A n c)).setCell ⟨h, 5, none⟩ (.int .i64 st)) := by
  have hlt : ∀ {F : Nat → Prop}, M.Is N X g D F → (∀ b, F b → b < w.heap.size) → ¬ F pa := fun _ h e => by have := h _ e; omega
  have key : ∀ {F F' : Nat → Prop}, (∀ b, F' b → F b ∨ X.heap.size ≤ b ∨ N ≤ b ∧ ∃ a, 0 < n ∧ A = some a ∧ a.block = b) → ∀ b, F' b → F b ∨ X.heap.size ≤ b := fun h3 b hb => by
    rcases h3 b hb with e | e | ⟨e1, x, e2, e3, e4⟩
    · exact .inl e
    · exact .inr e
    · have := hA x e2 e3; omega
  rcases t with ⟨cc, L, x, hd, F, S, U, G, R, T, V, rfl, hxo, hp⟩ | ⟨L, F, S, G, R, T, rfl, hp⟩
  · have hp' := hp.grow hb
    refine (M.plan N X g D F A n c fs st (C.okM hk) hp'.lv.lz.is (hfs X (Below.refl _ _)) hn).mono ?_
    rintro e w' ⟨h1, F', h2, h3, h4⟩
    have o := hp'.disk1 h2 (key h3) h4 rfl
    obtain ⟨W, hW⟩ := o.qc.qs.rk.cells
    obtain ⟨y1, y2⟩ := o.qc.qs.rk.plan (A := A) (n := n) (c := c) (fs := fs) (st := st) (fun Y hY => hfs Y (h4.bel.trans hY)) hA
    exact ⟨h1, h4.bk tb (hlt hp'.lv.lz.is fun b hb => (M.lt hp.lv.lz.is b hb).2), ⟨L, W, hW⟩, .inl ⟨cc, L, x, hd, F', S, U, G, R, T, V, rfl, hxo, o.disk2 y1 (fun b hb => .inl hb) y2 rfl⟩, h4.bel, h4.bel.trans y2.bel⟩
  · have hp' := hp.grow hb
    refine (M.plan N X g D F A n c fs st (C.okM hk) hp'.bo.lz.is (hfs X (Below.refl _ _)) hn).mono ?_
    rintro e w' ⟨h1, F', h2, h3, h4⟩
    have o := hp'.disk1 h2 (key h3) h4 rfl
    obtain ⟨W, hW⟩ := o.bo.qs.rk.cells
    obtain ⟨y1, y2⟩ := o.bo.qs.rk.plan (A := A) (n := n) (c := c) (fs := fs) (st := st) (fun Y hY => hfs Y (h4.bel.trans hY)) hA
    exact ⟨h1, h4.bk tb (hlt hp'.bo.lz.is fun b hb => (M.lt hp.bo.lz.is b hb).2), ⟨L, W, hW⟩, .inr ⟨L, F', S, G, R, T, rfl, o.disk2 y1 (fun b hb => .inl hb) y2 rfl⟩, h4.bel, h4.bel.trans y2.bel⟩
/-- The power goes on the landed side; then the document's own cell is set. -/
theorem PlC.stop1 {K : RvC M C} {cv : Value} (t : PlC M C K N X g s h q kc cv D Z k) (hk : C.ok X) :
    Calls Tryz.prog 18 #[.pointer (some ⟨g, 0, none⟩)] X fun e w' => e = .returned (.tuple #[]) ∧ (∃ L V, Bk w' h 62 #[L, S19.RkV.vS V, V.vW, V.vB, .slice V.AF V.nF V.cF, .int .i64 D.stop, .int .i64 (D.cnt : Int), .bool D.off]) ∧ PlC M C K N (w'.setCell ⟨h, 7, none⟩ (.bool true)) g s h q kc cv D.halt Z k ∧ Below N X w' ∧ Below N X (w'.setCell ⟨h, 7, none⟩ (.bool true)) := by
  rcases t with ⟨cc, L, x, hd, F, S, U, G, R, T, V, rfl, hxo, hp⟩ | ⟨L, F, S, G, R, T, rfl, hp⟩
  · refine (M.stop N X g D F (C.okM hk) hp.lv.lz.is).mono ?_
    rintro e w' ⟨h1, F', h2, h3, h4⟩
    have o := hp.disk1 h2 h3 h4 rfl
    obtain ⟨W, hW⟩ := o.qc.qs.rk.cells
    obtain ⟨y1, y2⟩ := o.qc.qs.rk.off
    exact ⟨h1, ⟨L, W, hW⟩, .inl ⟨cc, L, x, hd, F', S, U, G, R, T, V, rfl, hxo, o.disk2 y1 (fun b hb => .inl hb) y2 rfl⟩, h4.bel, h4.bel.trans y2.bel⟩
  · refine (M.stop N X g D F (C.okM hk) hp.bo.lz.is).mono ?_
    rintro e w' ⟨h1, F', h2, h3, h4⟩
    have o := hp.disk1 h2 h3 h4 rfl
    obtain ⟨W, hW⟩ := o.bo.qs.rk.cells
    obtain ⟨y1, y2⟩ := o.bo.qs.rk.off
    exact ⟨h1, ⟨L, W, hW⟩, .inr ⟨L, F', S, G, R, T, rfl, o.disk2 y1 (fun b hb => .inl hb) y2 rfl⟩, h4.bel, h4.bel.trans y2.bel⟩
end
/-- Both sides and a block apart, whatever blocks they lie in. -/
def Jb (M : DC) (C : SlC M) (N g h pa : Nat) (t0 : TypeId) (cs : Array Value) (s q k : Nat) (D D2 : Dk) (Z Z2 : Sl) (X : World) : Prop := ∃ L F S G R T, Bp M C N X g s h q L k D Z D2 Z2 F S G R T pa t0 cs
section
variable {M : DC} {C : SlC M} {N : Nat} {w X : World} {g s h q kc k pa : Nat} {t0 : TypeId} {cs : Array Value} {D D2 : Dk} {Z Z2 : Sl}
theorem Jb.pk (t : Jb M C N g h pa t0 cs s q k D D2 Z Z2 X) : Bk X pa t0 cs := by
  obtain ⟨L, F, S, G, R, T, t⟩ := t
  exact t.pk
theorem PlC.jb {K : RvC M C} {cv : Value} (t : PlC M C K N w g s h q kc cv D Z k) (hb : Below w.heap.size w X) (hpa : w.heap.size ≤ pa) (tb : Bk X pa t0 cs) : Jb M C N g h pa t0 cs s q k D D Z Z X := t.bp hb hpa tb
theorem Jb.up1 (t : Jb M C N g h pa t0 cs s q k D D2 Z Z2 X) (hk : C.ok X) {A' : Option Addr} {n' c' : Nat} {ch : List UInt8} (hch : Rd X A' n' c' ch) (hA' : ∀ a, 0 < n' → A' = some a → a.block < N) {A : Option Addr} {n c : Nat} {fs : List Int} {st : Int} (hfs : RI X .i64 A n c fs) (hA : ∀ a, 0 < n → A = some a → a.block < N) (hn : n ≤ 1099511627776) :
    Calls Tryz.prog 19 #[.pointer (some ⟨g, 0, none⟩), .slice A' n' c', .agg #[.slice A n c, .int .i64 st]] X fun e w' => e = .returned (.tuple #[]) ∧ Jb M C N g h pa t0 cs s q k (D.up ch fs st) D2 Z Z2 w' ∧ Below N X w' := by
  obtain ⟨L, F, S, G, R, T, t⟩ := t
  exact (t.up1 hk hch hA' hfs hA hn).mono fun e w' ⟨h1, ⟨F', h2⟩, h3⟩ => ⟨h1, ⟨L, F', S, G, R, T, h2⟩, h3⟩
theorem Jb.up2 (t : Jb M C N g h pa t0 cs s q k D D2 Z Z2 X) {A' : Option Addr} {n' c' : Nat} {ch : List UInt8} (hch : Rd X A' n' c' ch) (hA' : ∀ a, 0 < n' → A' = some a → a.block < N) {A : Option Addr} {n c : Nat} {fs : List Int} {st : Int} (hfs : RI X .i64 A n c fs) (hA : ∀ a, 0 < n → A = some a → a.block < N) :
    Calls Tryz.prog 20 #[.pointer (some ⟨h, 0, none⟩), .slice A' n' c', .agg #[.slice A n c, .int .i64 st]] X fun e w' => e = .returned (.tuple #[]) ∧ Jb M C N g h pa t0 cs s q k D (D2.up ch fs st) Z Z2 w' ∧ Below N X w' := by
  obtain ⟨L, F, S, G, R, T, t⟩ := t
  exact (t.up2 hch hA' hfs hA).mono fun e w' ⟨h1, ⟨G', h2⟩, h3⟩ => ⟨h1, ⟨L, F, S, G', R, T, h2⟩, h3⟩
theorem Jb.slots1 (t : Jb M C N g h pa t0 cs s q k D D2 Z Z2 X) (hk : C.ok X) (hl : D.sure.length = 16) :
    Calls Tryz.prog 8 #[.pointer (some ⟨g, 0, none⟩), .int .i64 0, .int .i64 8] X fun e w' => ∃ s', e = .returned (.tuple #[.pointer (some ⟨s', 0, none⟩), .int .i64 0]) ∧ Jb M C N g h pa t0 cs s' q k D D2 (Sl.new 0 8) Z2 w' ∧ Below N X w' := by
  obtain ⟨L, F, S, G, R, T, t⟩ := t
  exact (t.slots1 hk hl).mono fun e w' ⟨s', h1, ⟨F', S', h2⟩, h3⟩ => ⟨s', h1, ⟨L, F', S', G, R, T, h2⟩, h3⟩
theorem Jb.slots2 (t : Jb M C N g h pa t0 cs s q k D D2 Z Z2 X) (hl : D2.sure.length = 16) :
    Calls Tryz.prog 9 #[.pointer (some ⟨h, 0, none⟩), .int .i64 0, .int .i64 8] X fun e w' => ∃ q', e = .returned (.pointer (some ⟨q', 0, none⟩)) ∧ Jb M C N g h pa t0 cs s q' k D D2 Z (Sl.new 0 8) w' ∧ Below N X w' := by
  obtain ⟨L, F, S, G, R, T, t⟩ := t
  exact (t.slots2 hl).mono fun e w' ⟨q', h1, ⟨R', h2⟩, h3⟩ => ⟨q', h1, ⟨L, F, S, G, R', T, h2⟩, h3⟩
theorem Jb.opn (K : RvC M C) (t : Jb M C N g h pa t0 cs s q k D D Z Z X) (hk : K.ok X) :
    Calls Tryz.prog 21 #[.pointer (some ⟨s, 0, none⟩)] X fun e w' => ∃ p, e = .returned (.tuple #[.pointer p, .int .i64 (Cn.openC Z D : Int)]) ∧ Below N X w' ∧
      ∀ Y, Below w'.heap.size w' Y → Calls Tryz.prog 22 #[.pointer (some ⟨q, 0, none⟩)] Y fun e w'' => ∃ kc k', e = .returned (.tuple #[.pointer (some ⟨kc, 0, none⟩), .int .i64 (Cn.openC Z D : Int)]) ∧ k' ≤ k + 1 ∧ PlC M C K N w'' g s h q kc (.pointer p) D (Z.load D) k' ∧ Below N Y w'' := by
  obtain ⟨L, F, S, G, R, T, t⟩ := t
  exact both_open K t.bo hk
theorem Jb.new (K : RvC M C) (t : Jb M C N g h pa t0 cs s q k D D Z Z X) (hk : ∀ Y, Below N X Y → K.ok Y) {A : Option Addr} {n c : Nat} {hd : List UInt8} (hr : ∀ Y, Below N X Y → Rd Y A n c hd) (hA : ∀ a, 0 < n → A = some a → a.block < N) {tot bat : Nat} (ht : tot < 18446744073709551616) (hb : bat < 18446744073709551616) (hc : D.cnt < 1099511600000) (hkk : k < 1000000) (hn : n ≤ 100000) :
    Calls Tryz.prog 10 #[.pointer (some ⟨s, 0, none⟩), .slice A n c, .int .u64 (tot : Int), .int .u64 (bat : Int)] X fun e w' => ∃ p, e = .returned (.tuple #[.pointer p, .int .i64 (Cn.newC tot bat hd Z D : Int)]) ∧ Below N X w' ∧
      ∀ Y, Below w'.heap.size w' Y → Calls Tryz.prog 11 #[.pointer (some ⟨q, 0, none⟩), .slice A n c, .int .u64 (tot : Int), .int .u64 (bat : Int)] Y fun e w'' => ∃ kc k', e = .returned (.tuple #[.pointer (some ⟨kc, 0, none⟩), .int .i64 (Cn.newC tot bat hd Z D : Int)]) ∧ k' ≤ k + 1 ∧ PlC M C K N w'' g s h q kc (.pointer p) (Cn.newD tot bat hd Z D) (Cn.newZ tot bat hd Z D) k' ∧ Below N Y w'' := by
  obtain ⟨L, F, S, G, R, T, t⟩ := t
  exact start5 K t.bo hk hr hA ht hb hc hkk hn
/-- What is sure on both sides. -/
theorem PlC.sure {K : RvC M C} {cv : Value} (t : PlC M C K N w g s h q kc cv D Z k) : ∃ AS sl cS, w.cell? ⟨h, 1, none⟩ = some (.slice AS sl cS) ∧ sl ≤ 256 ∧ h < w.heap.size ∧ kc < w.heap.size ∧
    ∀ X, Below w.heap.size w X → C.ok X → Calls Tryz.prog 24 #[.pointer (some ⟨g, 0, none⟩)] X fun e w' => ∃ A c, e = .returned (.slice A sl c) ∧ (S19.Rw w' A sl D.sure ∧ S19.Rw w' AS sl D.sure ∧ PlC M C K N w' g s h q kc cv D Z k ∧ w'.heap[h]? = w.heap[h]? ∧ w'.heap[kc]? = w.heap[kc]?) ∧ Below N X w' := by
  rcases t with ⟨cc, L, x, hd, F, S, U, G, R, T, V, rfl, hxo, hp⟩ | ⟨L, F, S, G, R, T, rfl, hp⟩
  · obtain ⟨W, hbh, hrs⟩ := hp.qc.qs.rk.ex
    obtain ⟨AS, cS, eS⟩ := own_form hrs.oS
    have hlh := (hp.qc.qs.rk.lt h hp.qc.qs.rk.lo.2).2
    refine ⟨AS, D.sure.length, cS, by rw [← eS]; exact hbh.cell 1, hp.qc.qs.rk.ok.most, hlh, hp.qc.rc.lt2, fun X hX hk => ?_⟩
    have hpX := hp.grow hX
    refine (M.sure N X g D F (C.okM hk) hpX.lv.lz.is).mono ?_
    rintro e w' ⟨A, c, F', h1, h2, h3, h4, h5⟩
    have hs : ∀ b, (b < N ∨ (Or3 G R T b ∨ V b)) → b < w.heap.size → w'.heap[b]? = w.heap[b]? := fun b hb hl => (h5.same b (Nat.lt_of_lt_of_le hl hX.size) fun hF => by
      rcases hb with e | e
      · have := (M.lt hpX.lv.lz.is b hF).1; omega
      · exact hp.ap b (.inl hF) e).trans (hX.block b hl)
    refine ⟨A, c, h1, ⟨h2.rw, (hrs.keep (Nat.le_trans hX.size h5.size) fun b hb hl => hs b (hb.imp id fun e => .inl (.inl e)) hl).rw eS, .inl ⟨cc, L, x, hd, F', S, U, G, R, T, V, rfl, hxo, hpX.disk1 h3 h4 h5 rfl⟩, hs h (.inr (.inl (.inl hp.qc.qs.rk.lo.2))) hlh, hs kc (.inr (.inr hp.qc.rc.at_)) hp.qc.rc.lt2⟩, h5.bel⟩
  · obtain ⟨W, hbh, hrs⟩ := hp.bo.qs.rk.ex
    obtain ⟨AS, cS, eS⟩ := own_form hrs.oS
    have hlh := (hp.bo.qs.rk.lt h hp.bo.qs.rk.lo.2).2
    refine ⟨AS, D.sure.length, cS, by rw [← eS]; exact hbh.cell 1, hp.bo.qs.rk.ok.most, hlh, hp.kb.lt, fun X hX hk => ?_⟩
    have hpX := hp.grow hX
    refine (M.sure N X g D F (C.okM hk) hpX.bo.lz.is).mono ?_
    rintro e w' ⟨A, c, F', h1, h2, h3, h4, h5⟩
    have hs : ∀ b, (b < N ∨ G b) → b < w.heap.size → w'.heap[b]? = w.heap[b]? := fun b hb hl => (h5.same b (Nat.lt_of_lt_of_le hl hX.size) fun hF => by
      rcases hb with e | e
      · have := (M.lt hpX.bo.lz.is b hF).1; omega
      · exact hp.bo.ap b (.inl hF) (.inl e)).trans (hX.block b hl)
    refine ⟨A, c, h1, ⟨h2.rw, (hrs.keep (Nat.le_trans hX.size h5.size) fun b hb hl => hs b hb hl).rw eS, .inr ⟨L, F', S, G, R, T, rfl, hpX.disk1 h3 h4 h5 rfl⟩, hs h (.inr hp.bo.qs.rk.lo.2) hlh, (h5.same kc (Nat.lt_of_lt_of_le hp.kb.lt hX.size) fun hF => hp.ka.1 (.inl hF)).trans (hX.block kc hp.kb.lt)⟩, h5.bel⟩
/-- Is the landed counter there? Just if the document's own is. -/
theorem PlC.isb {K : RvC M C} {p : Option Addr} (t : PlC M C K N X g s h q kc (.pointer p) D Z k) : X.cell? ⟨kc, 0, none⟩ = some (.bool (!p.isNone)) ∧ kc < X.heap.size := by
  rcases t with ⟨cc, L, x, hd, F, S, U, G, R, T, V, h1, h2, h⟩ | ⟨L, F, S, G, R, T, h1, h⟩
  · injection h1 with h1
    subst h1
    obtain ⟨A, c, hb, _, _⟩ := h.qc.rc.ex
    exact ⟨hb.cell 0, hb.lt⟩
  · injection h1 with h1
    subst h1
    exact ⟨h.kb.cell 0, h.kb.lt⟩
theorem PlC.pt {K : RvC M C} {cv : Value} (t : PlC M C K N X g s h q kc cv D Z k) : ∃ p, cv = .pointer p ∧ (p = none ∨ ∃ cc, p = some ⟨cc, 0, none⟩) := by
  rcases t with ⟨cc, L, x, hd, F, S, U, G, R, T, V, h1, _⟩ | ⟨L, F, S, G, R, T, h1, _⟩
  · exact ⟨_, h1, .inr ⟨cc, rfl⟩⟩
  · exact ⟨_, h1, .inl rfl⟩
theorem PlC.both {K : RvC M C} {cc : Nat} (t : PlC M C K N X g s h q kc (.pointer (some ⟨cc, 0, none⟩)) D Z k) : ∃ L x hd F S U G R T V, Po M C K N X g s cc h q kc L k D Z x hd D Z x hd F S U G R T V := by
  rcases t with ⟨cc', L, x, hd, F, S, U, G, R, T, V, h1, _, h2⟩ | ⟨L, F, S, G, R, T, h1, _⟩
  · injection h1 with h1
    injection h1 with h1
    injection h1 with h1
    subst h1
    exact ⟨L, x, hd, F, S, U, G, R, T, V, h2⟩
  · injection h1 with h1
    cases h1
end
end Go.Proofs.YtnoflgkjdibblaaGreatDoor.S21
