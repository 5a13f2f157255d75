/-
  Texts put together: GhV, WpK2, WpK3. No statement is proved here.
-/
import Derived.Test.YtkpfppiedadmbaaGreatDoorWo19
import Derived.Test.YtkpfppiedadmbaaGreatDoorWo09
import Derived.Test.YtkpfppiedadmbaaGreatDoorWo18
import Derived.Test.YtkpfppiedadmbaaGreatDoorWo11

/-
  A region that draws its order, gone through in the text's order once, where each operation's value is known by a fact alone that no new memory undoes. No statement is proved here.
-/
namespace Go.Proofs.YtkpfppiedadmbaaGreatDoor.SG
set_option linter.unusedSimpArgs false
set_option linter.unusedVariables false
set_option maxRecDepth 1024
open Go.RowKit

/-- What is known of a value, whatever new memory is made. -/
structure Fact where
  p : Value → World → Prop
  st : ∀ v X X', p v X → Below X.heap.size X X' → p v X'
/-- Nothing; just this value; a row of bytes; a new row of bytes; a block of cells; rows of bytes. -/
def Fact.any : Fact := ⟨fun _ _ => True, fun _ _ _ _ _ => trivial⟩
def Fact.eq (c : Value) : Fact := ⟨fun v _ => v = c, fun _ _ _ h _ => h⟩
def Fact.rd (n : Nat) (xs : List UInt8) : Fact := ⟨fun v X => ∃ A c, v = .slice A n c ∧ Rd X A n c xs, fun _ _ _ ⟨A, c, e, h⟩ hb => ⟨A, c, e, h.below hb⟩⟩
def Fact.new (w : World) (xs : List UInt8) : Fact := ⟨fun v X => ∃ A n c, v = .slice A n c ∧ X.ownsRow w.heap.size 5 1 (.slice A n c) n (bv xs), fun _ _ _ ⟨A, n, c, e, h⟩ hb => ⟨A, n, c, e, own_below h hb⟩⟩
def Fact.bk (n : Nat) (T : TypeId) (cs : Array Value) : Fact := ⟨fun v X => ∃ b, v = .slice (some ⟨b, 0, none⟩) n n ∧ Bk X b T cs, fun _ _ _ ⟨b, e, h⟩ hb => ⟨b, e, h.below hb h.lt⟩⟩
def Fact.rows (n : Nat) (xss : List (List UInt8)) : Fact := ⟨fun v X => ∃ A c, v = .slice A n c ∧ RdBs X A n c xss, fun _ _ _ ⟨A, c, e, h⟩ hb => ⟨A, c, e, h.below hb⟩⟩
section
variable {P : Program} {ops : Array Oper}
def upd (g : Nat → Value) (k : Nat) (v : Value) : Nat → Value := fun j => if j = k then v else g j
theorem upd_at (g : Nat → Value) (k : Nat) (v : Value) : upd g k v k = v := by simp [upd]
theorem upd_ne {g : Nat → Value} {k j : Nat} {v : Value} (h : j ≠ k) : upd g k v j = g j := by simp [upd, h]
def vals (n : Nat) (g : Nat → Value) : List Value := (List.range n).map g
theorem vals_at {n k : Nat} {g : Nat → Value} (h : k < n) : (vals n g).getD k undef = g k := by simp [vals, List.getD, h]
theorem vals_ne {n j k : Nat} {g : Nat → Value} {v : Value} (h : j ≠ k) : (vals n (upd g k v)).getD j undef = (vals n g).getD j undef := by
  rcases Nat.lt_or_ge j n with hj | hj
  · rw [vals_at hj, vals_at hj, upd_ne h]
  · simp only [List.getD_eq_getElem?_getD, vals]
    rw [List.getElem?_eq_none (by simpa using hj), List.getElem?_eq_none (by simpa using hj)]
/-- Of each operation that is listed its fact holds. -/
structure IV (F : Nat → Fact) (B : World → Prop) (g : Nat → Value) (L : Array Bool) (X : World) : Prop where
  base : B X
  fact : ∀ k, L.getD k false = true → (F k).p (g k) X
theorem IV.set {F : Nat → Fact} {B : World → Prop} {g : Nat → Value} {L : Array Bool} {X X' : World} (h : IV F B g L X) (k : Nat) (v : Value) (hb : Below X.heap.size X X') (hB : B X') (hv : (F k).p v X') : IV F B (upd g k v) (L.setIfInBounds k true) X' := by
  refine ⟨hB, fun j hj => ?_⟩
  by_cases hjk : j = k
  · subst hjk
    rw [upd_at]
    exact hv
  · rw [upd_ne hjk]
    rw [getD_ne (fun e => hjk e.symm)] at hj
    exact (F j).st _ _ _ (h.fact j hj) hb
theorem givesQ_mono {o : Oper} {a : Act} {w : World} {R R' : Value → World → Prop} {X X' : List PanicEntry → World → Prop} (h : givesQ P o a w R X) (hR : ∀ v w', R v w' → R' v w') (hX : ∀ c w', X c w' → X' c w') : givesQ P o a w R' X' := by
  unfold givesQ at *
  generalize (execOp a.eval o).run P w = r at *
  cases r with
  | ok n w' =>
    cases n <;> simp only at h ⊢ <;> try exact h.elim
    case value v => exact hR _ _ h
    case skip => exact hR _ _ h
    case enter f args =>
      refine h.mono ?_
      intro e w'' hr
      cases e with
      | returned v => exact hR _ _ hr
      | panicked c => exact hX _ _ hr
      | outgrown => exact hr.elim
  | halt x w' =>
    cases x <;> simp only at h ⊢ <;> try exact h.elim
    case panic v => exact hX _ _ h
theorem givesQ_run {o : Oper} {a : Act} {w w' : World} {u : Value} {R : Value → World → Prop} {X : List PanicEntry → World → Prop} (h : (execOp a.eval o).run P w = .ok (.value u) w') (hR : R u w') : givesQ P o a w R X := by
  unfold givesQ
  rw [h]
  exact hR
theorem givesQ_call {o : Oper} {a : Act} {w : World} {f : FuncId} {args : Array Value} {R : Value → World → Prop} {X : List PanicEntry → World → Prop} (h : (execOp a.eval o).run P w = .ok (.enter f args) w) (hR : Calls P f args w fun e w' => ∃ u, e = .returned u ∧ R u w') : givesQ P o a w R X := by
  unfold givesQ
  rw [h]
  refine hR.mono ?_
  rintro e w' ⟨u, rfl, h⟩
  exact h
variable {Q : Exit → Act → World → Prop} {F : Nat → Fact} {B : World → Prop} {a₀ : Act} {o : Oper} {l : List Oper} {k n : Nat} {aK : (Nat → Value) → Act}
/-- An operation, or a call, by what it waits for. -/
theorem seq_val (hk : k < n) (hBb : ∀ X X', B X → Below X.heap.size X X' → B X') (hw : ∀ g, Region.wanted o (yielded ops (aK g).tmps) = true)
    (hx : ∀ g X, B X → (∀ j, (o.after.any fun e => Region.binds .any e && e.on == j) = true → (F j).p (g j) X) → givesQ P o (aK g) X (fun u X' => Below X.heap.size X X' ∧ (F k).p u X') (fun _ _ => False))
    (h : Seq P ops Q (vals n) (IV F B) a₀ l (k + 1) (fun g => (aK g).put o.dst (g k))) : Seq P ops Q (vals n) (IV F B) a₀ (o :: l) k aK := by
  refine seq_new (fun g => g k) (fun g => vals_at hk) hw (fun g L w hL h0 hd hC hI => ?_) h
  refine givesQ_mono (hx g w hI.base fun j hj => ?_) ?_ (fun _ _ h => h.elim)
  · obtain ⟨e, he, hb⟩ := Array.any_eq_true'.1 hj
    simp only [Bool.and_eq_true, beq_iff_eq] at hb
    have := hd e he hb.1
    rw [hb.2] at this
    exact hI.fact j this
  · rintro u w' ⟨hb, hu⟩
    exact ⟨upd g k u, (upd_at g k u).symm, fun j hj _ => vals_ne hj, hI.set k u hb (hBb _ _ hI.base hb) hu⟩
theorem seq_end (h : ∀ g w, B w → (∀ j, j < ops.size → (F j).p (g j) w) → Q .normal (aK g) w) : Seq P ops Q (vals n) (IV F B) a₀ [] k aK :=
  seq_nil fun g w hI => h g w hI.base fun j hj => hI.fact j (by simp [Array.getD_eq_getD_getElem?, hj])
theorem wp_region_vals (F : Nat → Fact) (B : World → Prop) (n : Nat) {id : Nat} {Q : Exit → Act → World → Prop} {a : Act} {w : World} {l : List Oper} (hm : P.follows .mixedOrders = true) (hB : ghostB l.toArray = true) (hn : l.toArray.size = n) (hS : B w.drew)
    (h : Seq P l.toArray Q (vals n) (IV F B) a l 0 (fun _ => a)) : (Code.region id l.toArray true).wp P Q a w :=
  wp_region_ghost (vals n) (IV F B) n hm hB hn (fun _ => undef) ⟨hS, fun k hk => by rw [getD_rep] at hk; cases hk⟩ h
end
end Go.Proofs.YtkpfppiedadmbaaGreatDoor.SG

/-
  The landed package adrs: an address as bytes, with a number. No statement is proved here. (Written by genwk2.py.)
-/
namespace Go.Proofs.YtkpfppiedadmbaaGreatDoor.S15
set_option linter.unusedSimpArgs false
set_option linter.unusedVariables false
set_option maxRecDepth 1024
open Go.RowKit

theorem adB_parts (D : Ad) (k : Nat) : adB D k = [numsL [D.layer] 1, putL D.tree 8, numsL [D.kind, D.a, D.b, D.c, k] 5].flatten := by
  simp [adB, numsL]
/-- The facts of Bytes. -/
def byF (w : World) (g : Nat) (D : Ad) (k : Nat) (x1 x2 x3 : List UInt8) : Nat → SG.Fact := fun i => (([SG.Fact.eq (.pointer (some ⟨g, 0, none⟩)), SG.Fact.eq (.int .u32 (D.layer : Int)), SG.Fact.bk 1 35 #[.int .u32 (D.layer : Int)], SG.Fact.rd 4 x1, SG.Fact.eq (.pointer (some ⟨g, 1, none⟩)), SG.Fact.eq (.int .u64 (D.tree : Int)), SG.Fact.rd 8 x2, SG.Fact.eq (.pointer (some ⟨g, 2, none⟩)), SG.Fact.eq (.int .u32 (D.kind : Int)), SG.Fact.eq (.pointer (some ⟨g, 3, none⟩)), SG.Fact.eq (.int .u32 (D.a : Int)), SG.Fact.eq (.pointer (some ⟨g, 4, none⟩)), SG.Fact.eq (.int .u32 (D.b : Int)), SG.Fact.eq (.pointer (some ⟨g, 5, none⟩)), SG.Fact.eq (.int .u32 (D.c : Int)), SG.Fact.eq (.int .u32 (k : Int)), SG.Fact.bk 5 35 #[.int .u32 (D.kind : Int), .int .u32 (D.a : Int), .int .u32 (D.b : Int), .int .u32 (D.c : Int), .int .u32 (k : Int)], SG.Fact.rd 20 x3, SG.Fact.rows 3 [x1, x2, x3], SG.Fact.new w [x1, x2, x3].flatten, SG.Fact.new w [x1, x2, x3].flatten] : List SG.Fact))[i]?.getD SG.Fact.any
set_option maxHeartbeats 4000000 in
theorem bytes_core (D : Ad) (k : Nat) (w : World) (x1 x2 x3 : List UInt8)
    (n1 : ∀ b X, Bk X b 35 #[.int .u32 (D.layer : Int)] → Calls Tryz.prog 111 #[.slice (some ⟨b, 0, none⟩) 1 1] X (New X.heap.size X x1))
    (n2 : ∀ X, Calls Tryz.prog 27 #[.int .u64 (D.tree : Int), .int .i64 8] X (New X.heap.size X x2))
    (n3 : ∀ b X, Bk X b 35 #[.int .u32 (D.kind : Int), .int .u32 (D.a : Int), .int .u32 (D.b : Int), .int .u32 (D.c : Int), .int .u32 (k : Int)] → Calls Tryz.prog 111 #[.slice (some ⟨b, 0, none⟩) 5 5] X (New X.heap.size X x3))
    (l1 : x1.length = 4) (l2 : x2.length = 8) (l3 : x3.length = 20) :
    Calls Tryz.prog 85 #[adV D, .int .u32 (k : Int)] w (New w.heap.size w [x1, x2, x3].flatten) := by
  have N1 := Lib.hid n1
  have N2 := Lib.hid n2
  have N3 := Lib.hid n3
  have L1 := Lib.hid l1
  have L2 := Lib.hid l2
  have L3 := Lib.hid l3
  have HL := Lib.hid (show [x1, x2, x3].flatten.length ≤ 140737488355328 by simp; omega)
  clear n1 n2 n3 l1 l2 l3
  unfold adV
  obtain ⟨g, hg⟩ : ∃ g, g = w.heap.size := ⟨_, rfl⟩
  go_enter Tryz.func85, Tryz.ntmps85
  go_upto_region 1 with (fail)
  obtain ⟨w0, hw0⟩ : ∃ w0, w.alloc (.cells (adA D) 76) = w0 := ⟨_, rfl⟩
  have G0 : Bk w0 g 76 (adA D) := by rw [← hw0, hg]; exact Bk.new _ _ _
  have B0 : Below w.heap.size w w0 := by rw [← hw0]; exact (Below.refl _ _).alloc (Nat.le_refl _) _
  rw [hw0, ← hg]
  clear hw0 hg
  have HBB := Lib.hid (show ∀ X X', (Below w.heap.size w X ∧ Bk X g 76 (adA D)) → Below X.heap.size X X' → (Below w.heap.size w X' ∧ Bk X' g 76 (adA D)) from fun X X' h hb => ⟨h.1.trans (hb.mono h.1.size), h.2.below hb h.2.lt⟩)
  refine SG.wp_region_vals (byF w g D k x1 x2 x3) (fun X => Below w.heap.size w X ∧ Bk X g 76 (adA D)) 21 (by kernel_rfl) (by kernel_rfl) rfl ⟨B0.drew, G0.drew⟩ ?_
  refine SG.seq_val (by omega) HBB.out (fun _ => by rfl) ?_ ?_
  · intro g' X hB hd
    clear hd hB
    exact SG.givesQ_run (by go_simp) ⟨Below.refl _ _, rfl⟩
  simp only [Act.put, List.setIfInBounds_toArray, List.set_cons_zero, List.set_cons_succ]
  refine SG.seq_val (by omega) HBB.out (fun _ => by rfl) ?_ ?_
  · intro g' X hB hd
    have e0 : g' 0 = _ := hd 0 (by kernel_rfl)
    obtain ⟨f0, f1, f2, f3, f4, f5⟩ := ad_cells hB.2
    clear hd hB
    exact SG.givesQ_run (by go_simp) ⟨Below.refl _ _, rfl⟩
  simp only [Act.put, List.setIfInBounds_toArray, List.set_cons_zero, List.set_cons_succ]
  refine SG.seq_val (by omega) HBB.out (fun _ => by rfl) ?_ ?_
  · intro g' X hB hd
    have e1 : g' 1 = _ := hd 1 (by kernel_rfl)
    clear hd hB
    exact SG.givesQ_run (w' := X.alloc (.cells #[.int .u32 (D.layer : Int)] 35)) (by go_simp) ⟨(Below.refl _ _).alloc (Nat.le_refl _) _, X.heap.size, rfl, Bk.new _ _ _⟩
  simp only [Act.put, List.setIfInBounds_toArray, List.set_cons_zero, List.set_cons_succ]
  refine SG.seq_val (by omega) HBB.out (fun _ => by rfl) ?_ ?_
  · intro g' X hB hd
    obtain ⟨b, e2, h2⟩ := hd 2 (by kernel_rfl)
    clear hd hB
    refine SG.givesQ_call (f := 111) (args := #[.slice (some ⟨b, 0, none⟩) 1 1]) (by go_simp) ((N1.out b X h2).mono ?_)
    intro e X' h3
    obtain ⟨A, c, rfl, r, hb⟩ := new_len h3
    rw [L1.out] at r
    exact ⟨_, rfl, hb, A, c, by rw [L1.out], r⟩
  simp only [Act.put, List.setIfInBounds_toArray, List.set_cons_zero, List.set_cons_succ]
  refine SG.seq_val (by omega) HBB.out (fun _ => by rfl) ?_ ?_
  · intro g' X hB hd
    clear hd hB
    exact SG.givesQ_run (by go_simp) ⟨Below.refl _ _, rfl⟩
  simp only [Act.put, List.setIfInBounds_toArray, List.set_cons_zero, List.set_cons_succ]
  refine SG.seq_val (by omega) HBB.out (fun _ => by rfl) ?_ ?_
  · intro g' X hB hd
    have e0 : g' 4 = _ := hd 4 (by kernel_rfl)
    obtain ⟨f0, f1, f2, f3, f4, f5⟩ := ad_cells hB.2
    clear hd hB
    exact SG.givesQ_run (by go_simp) ⟨Below.refl _ _, rfl⟩
  simp only [Act.put, List.setIfInBounds_toArray, List.set_cons_zero, List.set_cons_succ]
  refine SG.seq_val (by omega) HBB.out (fun _ => by rfl) ?_ ?_
  · intro g' X hB hd
    have e5 : g' 5 = _ := hd 5 (by kernel_rfl)
    clear hd hB
    refine SG.givesQ_call (f := 27) (args := #[.int .u64 (D.tree : Int), .int .i64 8]) (by go_simp) ((N2.out X).mono ?_)
    intro e X' h3
    obtain ⟨A, c, rfl, r, hb⟩ := new_len h3
    rw [L2.out] at r
    exact ⟨_, rfl, hb, A, c, by rw [L2.out], r⟩
  simp only [Act.put, List.setIfInBounds_toArray, List.set_cons_zero, List.set_cons_succ]
  refine SG.seq_val (by omega) HBB.out (fun _ => by rfl) ?_ ?_
  · intro g' X hB hd
    clear hd hB
    exact SG.givesQ_run (by go_simp) ⟨Below.refl _ _, rfl⟩
  simp only [Act.put, List.setIfInBounds_toArray, List.set_cons_zero, List.set_cons_succ]
  refine SG.seq_val (by omega) HBB.out (fun _ => by rfl) ?_ ?_
  · intro g' X hB hd
    have e0 : g' 7 = _ := hd 7 (by kernel_rfl)
    obtain ⟨f0, f1, f2, f3, f4, f5⟩ := ad_cells hB.2
    clear hd hB
    exact SG.givesQ_run (by go_simp) ⟨Below.refl _ _, rfl⟩
  simp only [Act.put, List.setIfInBounds_toArray, List.set_cons_zero, List.set_cons_succ]
  refine SG.seq_val (by omega) HBB.out (fun _ => by rfl) ?_ ?_
  · intro g' X hB hd
    clear hd hB
    exact SG.givesQ_run (by go_simp) ⟨Below.refl _ _, rfl⟩
  simp only [Act.put, List.setIfInBounds_toArray, List.set_cons_zero, List.set_cons_succ]
  refine SG.seq_val (by omega) HBB.out (fun _ => by rfl) ?_ ?_
  · intro g' X hB hd
    have e0 : g' 9 = _ := hd 9 (by kernel_rfl)
    obtain ⟨f0, f1, f2, f3, f4, f5⟩ := ad_cells hB.2
    clear hd hB
    exact SG.givesQ_run (by go_simp) ⟨Below.refl _ _, rfl⟩
  simp only [Act.put, List.setIfInBounds_toArray, List.set_cons_zero, List.set_cons_succ]
  refine SG.seq_val (by omega) HBB.out (fun _ => by rfl) ?_ ?_
  · intro g' X hB hd
    clear hd hB
    exact SG.givesQ_run (by go_simp) ⟨Below.refl _ _, rfl⟩
  simp only [Act.put, List.setIfInBounds_toArray, List.set_cons_zero, List.set_cons_succ]
  refine SG.seq_val (by omega) HBB.out (fun _ => by rfl) ?_ ?_
  · intro g' X hB hd
    have e0 : g' 11 = _ := hd 11 (by kernel_rfl)
    obtain ⟨f0, f1, f2, f3, f4, f5⟩ := ad_cells hB.2
    clear hd hB
    exact SG.givesQ_run (by go_simp) ⟨Below.refl _ _, rfl⟩
  simp only [Act.put, List.setIfInBounds_toArray, List.set_cons_zero, List.set_cons_succ]
  refine SG.seq_val (by omega) HBB.out (fun _ => by rfl) ?_ ?_
  · intro g' X hB hd
    clear hd hB
    exact SG.givesQ_run (by go_simp) ⟨Below.refl _ _, rfl⟩
  simp only [Act.put, List.setIfInBounds_toArray, List.set_cons_zero, List.set_cons_succ]
  refine SG.seq_val (by omega) HBB.out (fun _ => by rfl) ?_ ?_
  · intro g' X hB hd
    have e0 : g' 13 = _ := hd 13 (by kernel_rfl)
    obtain ⟨f0, f1, f2, f3, f4, f5⟩ := ad_cells hB.2
    clear hd hB
    exact SG.givesQ_run (by go_simp) ⟨Below.refl _ _, rfl⟩
  simp only [Act.put, List.setIfInBounds_toArray, List.set_cons_zero, List.set_cons_succ]
  refine SG.seq_val (by omega) HBB.out (fun _ => by rfl) ?_ ?_
  · intro g' X hB hd
    clear hd hB
    exact SG.givesQ_run (by go_simp) ⟨Below.refl _ _, rfl⟩
  simp only [Act.put, List.setIfInBounds_toArray, List.set_cons_zero, List.set_cons_succ]
  refine SG.seq_val (by omega) HBB.out (fun _ => by rfl) ?_ ?_
  · intro g' X hB hd
    have e8 : g' 8 = _ := hd 8 (by kernel_rfl)
    have e10 : g' 10 = _ := hd 10 (by kernel_rfl)
    have e12 : g' 12 = _ := hd 12 (by kernel_rfl)
    have e14 : g' 14 = _ := hd 14 (by kernel_rfl)
    have e15 : g' 15 = _ := hd 15 (by kernel_rfl)
    clear hd hB
    exact SG.givesQ_run (w' := X.alloc (.cells #[.int .u32 (D.kind : Int), .int .u32 (D.a : Int), .int .u32 (D.b : Int), .int .u32 (D.c : Int), .int .u32 (k : Int)] 35)) (by go_simp) ⟨(Below.refl _ _).alloc (Nat.le_refl _) _, X.heap.size, rfl, Bk.new _ _ _⟩
  simp only [Act.put, List.setIfInBounds_toArray, List.set_cons_zero, List.set_cons_succ]
  refine SG.seq_val (by omega) HBB.out (fun _ => by rfl) ?_ ?_
  · intro g' X hB hd
    obtain ⟨b, e16, h2⟩ := hd 16 (by kernel_rfl)
    clear hd hB
    refine SG.givesQ_call (f := 111) (args := #[.slice (some ⟨b, 0, none⟩) 5 5]) (by go_simp) ((N3.out b X h2).mono ?_)
    intro e X' h3
    obtain ⟨A, c, rfl, r, hb⟩ := new_len h3
    rw [L3.out] at r
    exact ⟨_, rfl, hb, A, c, by rw [L3.out], r⟩
  simp only [Act.put, List.setIfInBounds_toArray, List.set_cons_zero, List.set_cons_succ]
  refine SG.seq_val (by omega) HBB.out (fun _ => by rfl) ?_ ?_
  · intro g' X hB hd
    obtain ⟨A1, c1, e3, r1⟩ := hd 3 (by kernel_rfl)
    obtain ⟨A2, c2, e6, r2⟩ := hd 6 (by kernel_rfl)
    obtain ⟨A3, c3, e17, r3⟩ := hd 17 (by kernel_rfl)
    clear hd hB
    exact SG.givesQ_run (w' := X.alloc (.cells #[.slice A1 4 c1, .slice A2 8 c2, .slice A3 20 c3] 24)) (by go_simp) ⟨(Below.refl _ _).alloc (Nat.le_refl _) _, some ⟨X.heap.size, 0, none⟩, 3, rfl, RdBs.built3 X _ r1 r2 r3⟩
  simp only [Act.put, List.setIfInBounds_toArray, List.set_cons_zero, List.set_cons_succ]
  refine SG.seq_val (by omega) HBB.out (fun _ => by rfl) ?_ ?_
  · intro g' X hB hd
    obtain ⟨A, c, e18, r⟩ := hd 18 (by kernel_rfl)
    have hs := hB.1.size
    clear hd hB
    refine SG.givesQ_call (f := 30) (args := #[.slice A 3 c]) (by go_simp) ((cat_any A 3 c [x1, x2, x3] X r HL.out).mono ?_)
    rintro e X' ⟨A', n', c', rfl, ho, hb⟩
    exact ⟨_, rfl, hb, A', n', c', rfl, own_base ho hs⟩
  simp only [Act.put, List.setIfInBounds_toArray, List.set_cons_zero, List.set_cons_succ]
  refine SG.seq_val (by omega) HBB.out (fun _ => by rfl) ?_ ?_
  · intro g' X hB hd
    obtain ⟨A, n', c, e19, r⟩ := hd 19 (by kernel_rfl)
    clear hd hB
    exact SG.givesQ_run (u := .slice A n' c) (by go_simp) ⟨Below.refl _ _, A, n', c, rfl, r⟩
  simp only [Act.put, List.setIfInBounds_toArray, List.set_cons_zero, List.set_cons_succ]
  refine SG.seq_end fun g' X hB hf => ?_
  obtain ⟨A, n', c, e20, r⟩ := hf 20 (by simp)
  have HB := Lib.hid hB.1
  have R := Lib.hid r
  have e21 : g' 20 = .slice A n' c := e20
  rw [e21]
  clear hf hB r e20 e21 HBB
  go_wp2
  go_ret
  exact ⟨A, n', c, rfl, R.out, HB.out⟩
theorem bytes_any (D : Ad) (hD : D.Ok) (k : Nat) (hk : k < 4294967296) (w : World) :
    Calls Tryz.prog 85 #[adV D, .int .u32 (k : Int)] w (New w.heap.size w (adB D k)) := by
  rw [adB_parts]
  refine bytes_core D k w _ _ _ (fun b X h => numbers_any b [D.layer] 1 X rfl (by omega) ?_ h) (fun X => put_any D.tree 8 X (by omega) hD.tree) (fun b X h => numbers_any b [D.kind, D.a, D.b, D.c, k] 5 X rfl (by omega) ?_ h) (numsL_len _ _ (by simp)) (putL_length _ _) (numsL_len _ _ (by simp))
  · intro i
    rcases i with _ | i
    · exact hD.layer
    · simp
  · intro i
    rcases i with _ | _ | _ | _ | _ | i
    · exact hD.kind
    · exact hD.a
    · exact hD.b
    · exact hD.c
    · exact hk
    · simp
end Go.Proofs.YtkpfppiedadmbaaGreatDoor.S15

/-
  The landed package adrs: Num, Prf, and what masks are told by. No statement is proved here.
-/
namespace Go.Proofs.YtkpfppiedadmbaaGreatDoor.S15
set_option linter.unusedSimpArgs false
set_option linter.unusedVariables false
set_option maxRecDepth 1024
open Go.RowKit

theorem RdBs.built4At (w : World) (b : Nat) (hb : w.heap.size = b) (T : TypeId) {A1 A2 A3 A4 : Option Addr} {n1 c1 n2 c2 n3 c3 n4 c4 : Nat} {x1 x2 x3 x4 : List UInt8} (h1 : Rd w A1 n1 c1 x1) (h2 : Rd w A2 n2 c2 x2) (h3 : Rd w A3 n3 c3 x3) (h4 : Rd w A4 n4 c4 x4) :
    RdBs (w.alloc (.cells #[.slice A1 n1 c1, .slice A2 n2 c2, .slice A3 n3 c3, .slice A4 n4 c4] T)) (some ⟨b, 0, none⟩) 4 4 [x1, x2, x3, x4] := by
  subst hb
  exact RdBs.built w _ T [x1, x2, x3, x4] (by simp [maxLen]) fun j hj => by
    match j, hj with
    | 0, _ => exact ⟨A1, n1, c1, rfl, h1⟩
    | 1, _ => exact ⟨A2, n2, c2, rfl, h2⟩
    | 2, _ => exact ⟨A3, n3, c3, rfl, h3⟩
    | 3, _ => exact ⟨A4, n4, c4, rfl, h4⟩
theorem numL_parts (k : UInt8) (key text : List UInt8) : numL k key text = S2.sum [List.replicate 31 0, [k], key, text].flatten := by
  simp [numL, b32]
set_option maxHeartbeats 2000000 in
theorem num_any (k : UInt8) (A : Option Addr) (n c : Nat) (key : List UInt8) (A' : Option Addr) (n' c' : Nat) (text : List UInt8) (w : World) (hk : GK w) (h : Rd w A n c key) (h' : Rd w A' n' c' text) (hn : n ≤ 1000000) (hn' : n' ≤ 1000000) :
    Calls Tryz.prog 57 #[.int .u8 (k.toNat : Int), .slice A n c, .slice A' n' c'] w (New w.heap.size w (numL k key text)) := by
  rw [numL_parts]
  have HF := Lib.hid (show ∀ X, Calls Tryz.prog 58 #[.int .u8 0, .int .i64 31] X (New X.heap.size X (List.replicate 31 0)) from fun X => fill_any 0 31 X (by omega))
  have HL := Lib.hid (show [List.replicate 31 0, [k], key, text].flatten.length ≤ 2100000 by
    have e1 := h.len
    have e2 := h'.len
    simp
    omega)
  have HR := Lib.hid h
  have HR' := Lib.hid h'
  have HK := Lib.hid hk
  have RL := Lib.hid (show ∀ W : World, Rd (W.alloc (.cells #[.int .u8 (k.toNat : Int)] 5)) (some ⟨W.heap.size, 0, none⟩) 1 1 [k] from fun W => rd_lit W _ [k] rfl (by simp [maxLen]) _ rfl)
  obtain ⟨xx, hxx⟩ : ∃ xx, xx = List.replicate 31 (0 : UInt8) := ⟨_, rfl⟩
  have HX := Lib.hid (show xx.length = 31 by rw [hxx]; simp)
  rw [← hxx] at HF HL ⊢
  clear h h' hk hxx
  go_enter Tryz.func57, Tryz.ntmps57
  go_wp2_with (first
    | (go_at_call 58; ((with_reducible refine (HF.out _).mono ?_); rintro e w1 ⟨A1, n1, c1, rfl, q1, b1⟩; obtain rfl : n1 = 31 := (own_len q1).symm.trans HX.out; have R1 := Lib.hid (Rd.own q1); have B1 := Lib.hid b1; clear q1 b1))
    | (go_at_call 30; ((refine (cat_any _ 4 4 [xx, [k], key, text] _ (RdBs.built4At _ _ (by simp) _ (R1.out.alloc _) (RL.out w1) ((HR.out.below B1.out).alloc _) ((HR'.out.below B1.out).alloc _)) (Nat.le_trans HL.out (by decide))).mono ?_); rintro e w2 ⟨A2, n2, c2, rfl, q2, b2⟩; have O2 := Lib.hid q2; have B2 := Lib.hid (((B1.out.alloc B1.out.size (.cells #[.int .u8 (k.toNat : Int)] 5)).alloc (Nat.le_trans B1.out.size (by simp)) (.cells #[.slice A1 31 c1, .slice (some ⟨w1.heap.size, 0, none⟩) 1 1, .slice A n c, .slice A' n' c'] 24)).trans (b2.mono (Nat.le_trans B1.out.size (by simp; omega)))); clear q2 b2))
    | (go_at_call 81; ((with_reducible refine (S2.one_any A2 n2 c2 _ _ (Rd.own O2.out) (HK.out.bel B2.out).s2 (by have := own_len O2.out; have := HL.out; omega)).mono ?_); rintro e w3 ⟨A3, n3, c3, rfl, q3, b3⟩; have O3 := Lib.hid q3; have B3 := Lib.hid b3; clear q3 b3)))
  go_ret
  exact New.from B2.out ⟨A3, n3, c3, rfl, O3.out, B3.out⟩
theorem prf_any (A : Option Addr) (n c : Nat) (key : List UInt8) (A' : Option Addr) (n' c' : Nat) (text : List UInt8) (w : World) (hk : GK w) (h : Rd w A n c key) (h' : Rd w A' n' c' text) (hn : n ≤ 1000000) (hn' : n' ≤ 1000000) :
    Calls Tryz.prog 23 #[.slice A n c, .slice A' n' c'] w (New w.heap.size w (prfL key text)) := by
  have H := Lib.hid (show Calls Tryz.prog 57 #[.int .u8 3, .slice A n c, .slice A' n' c'] w (New w.heap.size w (prfL key text)) from num_any 3 A n c key A' n' c' text w hk h h' hn hn')
  clear h h' hk
  go_enter Tryz.func23, Tryz.ntmps23
  go_wp2_with (go_at_call 57; ((with_reducible refine H.out.mono ?_); rintro e w1 ⟨A1, n1, c1, rfl, o1, b1⟩; have O1 := Lib.hid o1; have B1 := Lib.hid b1; clear o1 b1))
  go_ret
  exact ⟨A1, n1, c1, rfl, O1.out, B1.out⟩
/-- A boxed row, and an address. -/
theorem keepT {w' : World} {p q n c : Nat} {T T' : TypeId} {D : Ad} {A : Option Addr} (h : Bk w' p T #[.slice A n c]) (h' : Bk w' q T' (adA D)) : w'.cell? ⟨p, 0, none⟩ = some (.slice A n c) ∧ w'.cell? ⟨q, 0, none⟩ = some (.int .u32 (D.layer : Int)) ∧ w'.cell? ⟨q, 1, none⟩ = some (.int .u64 (D.tree : Int)) ∧ w'.cell? ⟨q, 2, none⟩ = some (.int .u32 (D.kind : Int)) ∧ w'.cell? ⟨q, 3, none⟩ = some (.int .u32 (D.a : Int)) ∧ w'.cell? ⟨q, 4, none⟩ = some (.int .u32 (D.b : Int)) ∧ w'.cell? ⟨q, 5, none⟩ = some (.int .u32 (D.c : Int)) := ⟨h.cell 0, ad_cells h'⟩
set_option maxHeartbeats 4000000 in
theorem told_core (D : Ad) (i : Nat) (hi : i < 2147483648) (p q : Nat) (As : Option Addr) (cs : Nat) (w : World) (hp : Bk w p 24 #[.slice As 32 cs]) (hq : Bk w q 76 (adA D)) (b0 z : List UInt8)
    (h1 : ∀ X, Calls Tryz.prog 85 #[adV D, .int .u32 (i : Int)] X (New X.heap.size X b0))
    (h2 : ∀ X A c, Below w.heap.size w X → Rd X A 32 c b0 → Calls Tryz.prog 23 #[.slice As 32 cs, .slice A 32 c] X (New X.heap.size X z))
    (l1 : b0.length = 32) :
    Calls Tryz.prog 101 #[.int .i64 (i : Int), .pointer (some ⟨p, 0, none⟩), .pointer (some ⟨q, 0, none⟩)] w (New w.heap.size w z) := by
  unfold adV at *
  have H1H := Lib.hid h1
  have H2H := Lib.hid h2
  have L1H := Lib.hid l1
  have P0 := Lib.hid hp
  have Q0 := Lib.hid hq
  have BZ := Lib.hid (Below.refl w.heap.size w)
  have ei : IntKind.u32.wrap (i : Int) = (i : Int) := by rw [IntKind.wrap_u32]; omega
  clear h1 h2 l1 hp hq
  go_enter Tryz.func101, Tryz.ntmps101
  go_upto_region 1 with (fail)
  (go_region_held3 (fun w' => w'.cell? ⟨p, 0, none⟩ = some (.slice As 32 cs) ∧ w'.cell? ⟨q, 0, none⟩ = some (.int .u32 (D.layer : Int)) ∧ w'.cell? ⟨q, 1, none⟩ = some (.int .u64 (D.tree : Int)) ∧ w'.cell? ⟨q, 2, none⟩ = some (.int .u32 (D.kind : Int)) ∧ w'.cell? ⟨q, 3, none⟩ = some (.int .u32 (D.a : Int)) ∧ w'.cell? ⟨q, 4, none⟩ = some (.int .u32 (D.b : Int)) ∧ w'.cell? ⟨q, 5, none⟩ = some (.int .u32 (D.c : Int)))
    (first
      | exact keepT P2.out Q2.out
      | exact keepT P1.out Q1.out
      | exact keepT P0.out Q0.out)
    (first
      | (go_at_call 85; ((with_reducible refine (H1H.out _).mono ?_)); rintro e w1 ⟨A1, n1, c1, rfl, q1, b1⟩; obtain rfl : n1 = 32 := (own_len q1).symm.trans (L1H.out); have R1 := Lib.hid (Rd.own q1); have B1 := Lib.hid (BZ.out.drew.trans (b1.mono BZ.out.size)); have P1 := Lib.hid (P0.out.drew.below b1 P0.out.drew.lt); have Q1 := Lib.hid (Q0.out.drew.below b1 Q0.out.drew.lt); clear q1 b1)
      | (go_at_call 23; ((with_reducible refine (H2H.out _ A1 c1 B1.out R1.out).mono ?_)); rintro e w2 ⟨A2, n2, c2, rfl, q2, b2⟩; have O2 := Lib.hid q2; have M2 := Lib.hid b2; have P2 := Lib.hid (P1.out.below b2 P1.out.lt); have Q2 := Lib.hid (Q1.out.below b2 Q1.out.lt); clear q2 b2)
      | fail))
  go_wp2
  go_ret
  exact New.from B1.out ⟨A2, n2, c2, rfl, O2.out, M2.out⟩
theorem told_any (D : Ad) (hD : D.Ok) (i : Nat) (hi : i < 2147483648) (p q : Nat) (As : Option Addr) (cs : Nat) (sd : List UInt8) (w : World) (hk : GK w) (hp : Bk w p 24 #[.slice As 32 cs]) (hq : Bk w q 76 (adA D)) (hs : Rd w As 32 cs sd) :
    Calls Tryz.prog 101 #[.int .i64 (i : Int), .pointer (some ⟨p, 0, none⟩), .pointer (some ⟨q, 0, none⟩)] w (New w.heap.size w (prfL sd (adB D i))) :=
  told_core D i hi p q As cs w hp hq (adB D i) _ (fun X => bytes_any D hD i (by omega) X) (fun X A c hX h => prf_any As 32 cs sd A 32 c _ X (hk.bel hX) (hs.below hX) h (by omega) (by omega)) (adB_len D i)
end Go.Proofs.YtkpfppiedadmbaaGreatDoor.S15
