/-
  Texts put together: WpKD. No statement is proved here.
-/
import Derived.Test.YtkpfppiedadmbaaGreatDoorWo33

/-
  The landed wplus.Sign. No statement is proved here. (Written by genwkd.py.)
-/
namespace Go.Proofs.YtkpfppiedadmbaaGreatDoor.S15
set_option linter.unusedSimpArgs false
set_option linter.unusedVariables false
set_option maxRecDepth 1024
open Go.RowKit Go.Shelf RD
attribute [local go_sem] Oper.semAt_some

/-- Of what lay below n all cells but blocks E and R are as they were. -/
structure KE2 (n E R : Nat) (X Y : World) : Prop where
  size : X.heap.size ≤ Y.heap.size
  same : ∀ (k : Nat) (o : Obj), k < n → k ≠ E → k ≠ R → X.heap[k]? = some o → o.isCells = true → Y.heap[k]? = some o
section
variable {n E R : Nat} {X Y Z : World}
theorem KE2.refl (X : World) : KE2 n E R X X := ⟨Nat.le_refl _, fun _ _ _ _ _ h _ => h⟩
theorem KE2.trans (h : KE2 n E R X Y) (k : KE2 n E R Y Z) : KE2 n E R X Z := ⟨Nat.le_trans h.size k.size, fun i o h1 h2 h2' h3 h4 => k.same i o h1 h2 h2' (h.same i o h1 h2 h2' h3 h4) h4⟩
theorem KE2.ck (h : CK X Y) : KE2 n E R X Y := ⟨h.size, fun k o _ _ _ h1 h2 => h.same k o h1 h2⟩
theorem KE2.bel (h : Below X.heap.size X Y) : KE2 n E R X Y := ⟨h.size, fun k o _ _ _ h1 _ => below_at h h1⟩
theorem KE2.grown {row : Option Nat} (h : X.grownBy Y row) (hr : ∀ r, row = some r → r = R ∨ n ≤ r) : KE2 n E R X Y :=
  ⟨h.size, fun k o h1 _ h2 h3 _ => (h.block k (Array.getElem?_eq_some_iff.1 h3).1 fun e => by have := hr k e.symm; omega).trans h3⟩
theorem KE2.set (X : World) (i : Nat) (v : Value) : KE2 n E R X (X.setCell ⟨E, i, none⟩ v) :=
  ⟨by simp, fun k o _ h2 _ h3 _ => (Below.heap_setCell X ⟨E, i, none⟩ v k h2).trans h3⟩
theorem KE2.bk (h : KE2 n E R X Y) {g : Nat} {t : TypeId} {cs : Array Value} (hb : Bk X g t cs) (h1 : g < n) (h2 : g ≠ E) (h3 : g ≠ R) : Bk Y g t cs := h.same _ _ h1 h2 h3 hb rfl
theorem KE2.cell (h : KE2 n E R X Y) {p : Addr} {v : Value} (hp : X.cell? p = some v) (h1 : p.block < n) (h2 : p.block ≠ E) (h3 : p.block ≠ R) : Y.cell? p = some v := by
  obtain ⟨o, ho, hoc⟩ := cells_of hp
  exact (World.cell?_of_block ((h.same _ o h1 h2 h3 ho hoc).trans ho.symm)).trans hp
theorem KE2.rd (h : KE2 n E R X Y) {A : Option Addr} {m c : Nat} {xs : List UInt8} (hr : Rd X A m c xs) (ha : ∀ a, A = some a → a.block < n ∧ a.block ≠ E ∧ a.block ≠ R) : Rd Y A m c xs := by
  refine ⟨hr.len, hr.cap, hr.max, hr.nil, fun hn => ?_⟩
  obtain ⟨b, off, rfl, hb, hc⟩ := hr.at_ hn
  obtain ⟨h1, h2, h3⟩ := ha _ rfl
  exact ⟨b, off, rfl, Nat.lt_of_lt_of_le hb h.size, fun j hj => h.cell (p := ⟨b, off + j, none⟩) (hc j hj) h1 h2 h3⟩
end
/-- While the signature grows. -/
structure LS (w wL : World) (E R B : Nat) (U : Nat → List UInt8) (k : Nat) (X : World) : Prop where
  ke : KE2 wL.heap.size E R wL X
  bel : Below w.heap.size w X
  sig : ∃ v, Bk X E 24 #[v] ∧ X.ownsRow B 5 1 v (32 * k) (bv (cat U k)) ∧ ∀ r, v.ownBlock = some r → r = R ∨ wL.heap.size ≤ r
theorem LS.own {w wL : World} {E R B : Nat} {U : Nat → List UInt8} (hw : w.heap.size ≤ wL.heap.size) : OwnFrom wL.heap.size (LS w wL E R B U) := by
  intro k X Y row hs hg hr
  have hc : CK X Y := CK.of hg fun r e => (hr r e).2
  obtain ⟨v, h1, h2, h3⟩ := hs.sig
  exact ⟨hs.ke.trans (KE2.ck hc), hs.bel.grown hg hs.bel.size (fun j e => Nat.le_trans hw (hr j e).1), v, hc.bk h1, hc.own h2, h3⟩
/-- One part more. -/
theorem LS.step {w wL W X1 X3 : World} {E R B k : Nat} {U : Nat → List UInt8} {v v' : Value} (hw : w.heap.size ≤ B) (hB : B ≤ R) (hRE : R < E) (hEL : E < wL.heap.size) (hI : LS w wL E R B U k W) (hE : Bk W E 24 #[v]) (hO : W.ownsRow B 5 1 v (32 * k) (bv (cat U k))) (hr : ∀ r, v.ownBlock = some r → r = R ∨ wL.heap.size ≤ r)
    (hb : Below W.drew.heap.size W.drew X1) (ho : X3.ownsRow B 5 1 v' (32 * k + 32) (bv (cat U k ++ U k))) (hg : X1.grownBy X3 v.ownBlock) (hat : v'.ownBlock = v.ownBlock ∨ v'.ownBlock = some X1.heap.size) :
    KeepsFrom wL.heap.size W (X3.setCell ⟨E, 0, none⟩ v') ∧ LS w wL E R B U (k + 1) (X3.setCell ⟨E, 0, none⟩ v') := by
  have hb1 : Below W.heap.size W X1 := (Below.refl _ _).drew.trans hb
  have hlt : ∀ r, v.ownBlock = some r → B ≤ r ∧ r < W.heap.size := fun r e => hO.lt r e
  have hE1 : Bk X1 E 24 #[v] := hE.below hb1 hE.lt
  have hE3 : Bk X3 E 24 #[v] := hE1.only hg (fun e => by have := hr E e.symm; omega)
  have hs2 := hg.size
  have hs1 := hb1.size
  have hs0 := hI.ke.size
  have hrow' : ∀ r, v'.ownBlock = some r → r = R ∨ wL.heap.size ≤ r := fun r e => by
    rcases hat with h | h
    · exact hr r (h.symm.trans e)
    · rw [h] at e
      injection e with e
      right
      omega
  refine ⟨⟨by simp; omega, fun j o hj h1 h2 => ?_⟩, ?_, ?_, v', hE3.put 0 _, ?_, hrow'⟩
  · have h3 : X1.heap[j]? = some o := below_at hb1 h1
    have h4 : X3.heap[j]? = some o := by
      refine (hg.block j (Array.getElem?_eq_some_iff.1 h3).1 fun e => ?_).trans h3
      rcases hO.2 with ⟨rfl, _⟩ | ⟨g, cap', cur, hv, _, hh, _⟩
      · simp [Value.ownBlock] at e
      · rw [hv] at e
        have e1 : g = j := by simpa [Value.ownBlock] using e.symm
        subst e1
        rw [h1] at hh
        cases hh
        cases h2
    refine (Below.heap_setCell X3 ⟨E, 0, none⟩ _ j (by show j ≠ E; omega)).trans h4
  · exact ((hI.ke.trans (KE2.bel hb1)).trans (KE2.grown hg hr)).trans (KE2.set _ _ _)
  · refine ((hI.bel.trans (hb1.mono hI.bel.size)).grown hg (Nat.le_trans hI.bel.size hs1) (fun r e => ?_)).setCell (p := ⟨E, 0, none⟩) (by show _ ≤ E; omega) _
    have := (hlt r e).1
    omega
  · refine own_grown (w := X3) (row := some E) (by rw [Nat.mul_succ]; exact ho) (grownBy_setCell' X3 E v') fun b hb e => ?_
    injection e with e
    have := hrow' b hb
    omega
theorem lf_keep2 {n E R d : Nat} {X Y : World} {As : Option Addr} {cs ly tr qq : Nat} (h : KE2 n E R X Y) (hd : Bk X d 85 (lfS As cs ly tr qq)) (h1 : d < n) (h2 : d ≠ E) (h3 : d ≠ R) : Y.cell? ⟨d, 0, none⟩ = some (.slice As 32 cs) ∧ Y.cell? ⟨d, 1, none⟩ = some (.int .u32 (ly : Int)) ∧ Y.cell? ⟨d, 2, none⟩ = some (.int .u64 (tr : Int)) ∧ Y.cell? ⟨d, 3, none⟩ = some (.int .u32 (qq : Int)) := lfS_cells (h.bk hd h1 h2 h3)
set_option maxHeartbeats 4000000 in
theorem sign_core (As : Option Addr) (cs : Nat) (Al : Option Addr) (cl : Nat) (Ae : Option Addr) (ce : Nat) (ly tr qq : Nat) (At : Option Addr) (ct : Nat) (w : World) (S U : Nat → List UInt8) (ds : List Nat) (key : List UInt8)
    (my : ∀ X, Calls Tryz.prog 52 #[.agg #[.slice As 32 cs, .slice Al 32 cl, .slice Ae 32 ce]] X fun e w' => e = .returned (.bool true) ∧ Below X.heap.size X w')
    (all : ∀ X, Below w.heap.size w X → Calls Tryz.prog 59 #[.slice At 32 ct, .int .i64 4] X (S7.GivesI X.heap.size X ds))
    (sec : ∀ X, Below w.heap.size w X → Calls Tryz.prog 60 #[.agg (lfS Ae ce ly tr qq), .slice As 32 cs] X fun e w' => ∃ bk bc Ak ck, e = .returned (.func (.func 112) #[] #[.pointer (some ⟨bc, 0, none⟩)]) ∧ X.heap.size ≤ bk ∧ X.heap.size ≤ bc ∧ Bk w' bk 24 #[.slice Ak 32 ck] ∧ Bk w' bc 112 #[.func (.func 88) #[] #[.pointer (some ⟨bk, 0, none⟩)]] ∧ w'.ownsRow X.heap.size 5 1 (.slice Ak 32 ck) 32 (bv key) ∧ Below X.heap.size X w')
    (sof : ∀ (X : World) (k bk : Nat) (Ak : Option Addr) (ck : Nat), Below w.heap.size w X → k < 67 → Bk X bk 24 #[.slice Ak 32 ck] → Rd X Ak 32 ck key → Calls Tryz.prog 88 #[.int .i64 (k : Int), .pointer (some ⟨bk, 0, none⟩)] X (G32 (S k) X))
    (up : ∀ (X : World) (k : Nat) (B : Option Addr) (cB : Nat), Below w.heap.size w X → k < 67 → Rd X B 32 cB (S k) → Calls Tryz.prog 61 #[.agg (lfS Ae ce ly tr qq), .int .i64 (k : Int), .int .i64 0, .int .i64 ((ds.getD k 0 : Nat) : Int), .slice B 32 cB] X (G32 (U k) X))
    (dl : ds.length = 67) :
    Calls Tryz.prog 28 #[.agg (mkA As 32 cs Al 32 cl Ae 32 ce), .int .u32 (ly : Int), .int .u64 (tr : Int), .int .u32 (qq : Int), .slice At 32 ct] w (New w.heap.size w (cat U 67)) := by
  have MY := Lib.hid my
  have ALL := Lib.hid all
  have SEC := Lib.hid sec
  have SOF := Lib.hid sof
  have UP := Lib.hid up
  have DLN := Lib.hid dl
  clear my all sec sof up dl
  obtain ⟨i0, hi, hz0, hz1, hz2⟩ := info_parts Tryz.infoU8
  have hmix : Tryz.prog.follows .mixedOrders = true := by kernel_rfl
  obtain ⟨g, hg⟩ : ∃ g, g = w.heap.size := ⟨_, rfl⟩
  have HG := Lib.hid hg
  obtain ⟨w0, hw0⟩ : ∃ w0, w.alloc (.cells (mkA As 32 cs Al 32 cl Ae 32 ce) 26) = w0 := ⟨_, rfl⟩
  have M0 := Lib.hid (show Bk w0 g 26 (mkA As 32 cs Al 32 cl Ae 32 ce) by rw [← hw0, hg]; exact Bk.new _ _ _)
  have B0 := Lib.hid (show Below w.heap.size w w0 by rw [← hw0]; exact (Below.refl _ _).alloc (Nat.le_refl _) _)
  refine (callsIn_wide (n := 3)).1 ?_
  refine callsIn_of_wp_marks Tryz.func28 rfl trivial ?_ rfl
  simp only [Tryz.ntmps28, List.size_toArray, List.length_cons, List.length_nil, Nat.reduceAdd, Nat.reduceSub, Array.replicate_succ, Array.replicate_zero, List.push_toArray, List.append_toArray, List.nil_append, List.cons_append]
  refine wpIn_wide.2 ?_
  go_upto_region 1 with (fail)
  rw [← hg]
  have k0 : w0.cell? ⟨g, 0, none⟩ = some (.slice As 32 cs) := M0.out.cell 0
  have k1 : w0.cell? ⟨g, 1, none⟩ = some (.slice Al 32 cl) := M0.out.cell 1
  have k2 : w0.cell? ⟨g, 2, none⟩ = some (.slice Ae 32 ce) := M0.out.cell 2
  clear hw0 hg
  go_upto_region 3 with (go_at_call 52; ((with_reducible refine (MY.out _).mono ?_); rintro e w1 ⟨rfl, b1⟩; have B1 := Lib.hid (B0.out.trans (b1.mono B0.out.size)); have M1 := Lib.hid (M0.out.below b1 M0.out.lt); clear b1))
  clear k0 k1 k2
  refine SG.wp_region_ghost (γ := Value × Nat × Nat) (fun x => [.pointer (some ⟨g, 2, none⟩), .slice Ae 32 ce, .int .u32 (ly : Int), .int .u64 (tr : Int), .int .u32 (qq : Int), .agg (lfS Ae ce ly tr qq), .slice At 32 ct, x.1, .pointer (some ⟨x.2.1, 0, none⟩), .pointer (some ⟨x.2.2, 0, none⟩)]) (R3 w g (mkA As 32 cs Al 32 cl Ae 32 ce) (lfS Ae ce ly tr qq) ds) 12 (by kernel_rfl) (by kernel_rfl) rfl (undef, 0, 0) (R3.start B1.out.drew M1.out.drew) ?_
  refine SG.seq_pure (fun x => .pointer (some ⟨g, 2, none⟩)) (fun _ => rfl) (fun _ => by rfl) (fun x L X hL h => h.pass 0 (by omega)) ?_ ?_
  · intro x L X hS; go_simp
  simp only [Act.put, List.setIfInBounds_toArray, List.set_cons_zero, List.set_cons_succ]
  refine SG.seq_pure (fun x => .slice Ae 32 ce) (fun _ => rfl) (fun _ => by rfl) (fun x L X hL h => h.pass 1 (by omega)) ?_ ?_
  · intro x L X hS; have c2 := hS.bx.cell 2; simp at c2; go_simp
  simp only [Act.put, List.setIfInBounds_toArray, List.set_cons_zero, List.set_cons_succ]
  refine SG.seq_pure (fun x => .int .u32 (ly : Int)) (fun _ => rfl) (fun _ => by rfl) (fun x L X hL h => h.pass 2 (by omega)) ?_ ?_
  · intro x L X hS; go_simp
  simp only [Act.put, List.setIfInBounds_toArray, List.set_cons_zero, List.set_cons_succ]
  refine SG.seq_pure (fun x => .int .u64 (tr : Int)) (fun _ => rfl) (fun _ => by rfl) (fun x L X hL h => h.pass 3 (by omega)) ?_ ?_
  · intro x L X hS; go_simp
  simp only [Act.put, List.setIfInBounds_toArray, List.set_cons_zero, List.set_cons_succ]
  refine SG.seq_pure (fun x => .int .u32 (qq : Int)) (fun _ => rfl) (fun _ => by rfl) (fun x L X hL h => h.pass 4 (by omega)) ?_ ?_
  · intro x L X hS; go_simp
  simp only [Act.put, List.setIfInBounds_toArray, List.set_cons_zero, List.set_cons_succ]
  refine SG.seq_pure (fun x => .agg (lfS Ae ce ly tr qq)) (fun _ => rfl) (fun _ => by rfl) (fun x L X hL h => h.pass 5 (by omega)) ?_ ?_
  · intro x L X hS; go_simp
  simp only [Act.put, List.setIfInBounds_toArray, List.set_cons_zero, List.set_cons_succ]
  refine SG.seq_pure (fun x => .slice At 32 ct) (fun _ => rfl) (fun _ => by rfl) (fun x L X hL h => h.pass 6 (by omega)) ?_ ?_
  · intro x L X hS; go_simp
  simp only [Act.put, List.setIfInBounds_toArray, List.set_cons_zero, List.set_cons_succ]
  refine SG.seq_new (fun x => x.1) (fun _ => rfl) (fun _ => by rfl) ?_ ?_
  · intro x L X hL h0 hd hC hS
    refine SG.givesQ_call (f := 59) (args := #[.slice At 32 ct, .int .i64 4]) (by go_simp) ((ALL.out X hS.bel).mono ?_)
    rintro e Y ⟨A1, c1, rfl, r1, b1⟩
    rw [DLN.out] at r1
    refine ⟨.slice A1 67 c1, by rw [DLN.out], (.slice A1 67 c1, x.2), rfl, fun j hj hl => ?_, hS.set7 h0 b1 r1⟩
    exact SG.mid_ne [_, _, _, _, _, _, _] [_, _] _ _ j hj
  simp only [Act.put, List.setIfInBounds_toArray, List.set_cons_zero, List.set_cons_succ]
  refine SG.seq_new (fun x => .pointer (some ⟨x.2.1, 0, none⟩)) (fun _ => rfl) (fun _ => by rfl) ?_ ?_
  · intro x L X hL h0 hd hC hS
    exact SG.givesQ_run (w' := X.alloc (.cells zLf 85)) (by go_simp) ⟨(x.1, X.heap.size, x.2.2), rfl, fun j hj hl => SG.mid_ne [_, _, _, _, _, _, _, _] [_] _ _ j hj, hS.set8 h0⟩
  simp only [Act.put, List.setIfInBounds_toArray, List.set_cons_zero, List.set_cons_succ]
  refine SG.seq_new (fun x => .pointer (some ⟨x.2.2, 0, none⟩)) (fun _ => rfl) (fun _ => by rfl) ?_ ?_
  · intro x L X hL h0 hd hC hS
    exact SG.givesQ_run (w' := X.alloc (.cells #[.slice none 0 0] 86)) (by go_simp) ⟨(x.1, x.2.1, X.heap.size), rfl, fun j hj hl => SG.mid_ne [_, _, _, _, _, _, _, _, _] [] _ _ j hj, hS.set9 h0⟩
  simp only [Act.put, List.setIfInBounds_toArray, List.set_cons_zero, List.set_cons_succ]
  refine SG.seq_store (fun _ => rfl) (fun _ => by rfl) ?_ ?_
  · intro x L X hL h0 hd hS
    have h8 : L.getD 8 false = true := hd { on := 8, ground := .data } (by simp) (by rfl)
    have h10 := getD_t (by rw [hS.sz]; omega) h0
    have d3 := (hS.a8 h8).2.2
    rw [h10] at d3
    simp only [Bool.false_eq_true, if_false] at d3
    exact ⟨_, run_store_row 85 (.tmp 11) (.tmp 29) rfl x.2.1 _ zLf (lfS Ae ce ly tr qq) rfl rfl d3 rfl (by kernel_rfl) (by simp [Value.oneCell']), hS.set10 h0 h8 rfl⟩
  simp only [Act.put, List.setIfInBounds_toArray, List.set_cons_zero, List.set_cons_succ]
  refine SG.seq_store (fun _ => rfl) (fun _ => by rfl) ?_ ?_
  · intro x L X hL h0 hd hS
    have h9 : L.getD 9 false = true := hd { on := 9, ground := .data } (by simp) (by rfl)
    have h7 : L.getD 7 false = true := hd { on := 7, ground := .data } (by simp) (by rfl)
    have h11 := getD_t (by rw [hS.sz]; omega) h0
    have d3 := (hS.a9 h9).2.2
    rw [h11] at d3
    simp only [Bool.false_eq_true, if_false] at d3
    obtain ⟨A1, c1, e1, _⟩ := hS.a7 h7
    have hR := hS.set11 h0 h9 h7
    refine ⟨_, ?_, hR⟩
    have c0 := d3.cell 0
    have f0 := d3.frozen 0
    simp at c0
    rw [e1]
    go_simp
  simp only [Act.put, List.setIfInBounds_toArray, List.set_cons_zero, List.set_cons_succ]
  refine SG.seq_nil ?_
  rintro ⟨va, D, F⟩ X hS
  obtain ⟨A1, c1, e1, r1⟩ := hS.a7 (by rfl)
  obtain ⟨d1, d2, d3⟩ := hS.a8 (by rfl)
  obtain ⟨f1, f2, f3⟩ := hS.a9 (by rfl)
  have hDF := hS.ne (by rfl) (by rfl)
  rw [if_pos (by rfl)] at d3 f3
  simp only at e1 d1 d2 d3 f1 f2 f3 hDF ⊢
  subst e1
  obtain ⟨fb, fo, rfl, hfb, hfc⟩ := r1.at_ (by omega)
  have D2 := Lib.hid d3
  have F2 := Lib.hid f3
  have M2 := Lib.hid hS.bx
  have B2 := Lib.hid hS.bel
  have C2 := Lib.hid hfc
  obtain ⟨R, hR⟩ : ∃ R, X.heap.size = R := ⟨_, rfl⟩
  have HLT := Lib.hid (show g < R ∧ D < R ∧ F < R ∧ fb < R ∧ w.heap.size ≤ R ∧ D ≠ F from ⟨by rw [← hR]; exact M2.out.lt, by rw [← hR]; exact D2.out.lt, by rw [← hR]; exact F2.out.lt, by rw [← hR]; exact hfb, by rw [← hR]; exact B2.out.size, hDF⟩)
  have HRX := Lib.hid hR
  clear hS d1 d2 d3 f1 f2 f3 hDF r1 hfb hfc hR
  go_upto_region 5 with (at_make; refine wpList_make_own _ rfl _ _ 24 rfl X.heap.size 5 i0 (.int .u8 0) 1 Tryz.underlying24 hi hz0 hz1 _ _ _ 2144 rfl rfl (by omega) (by rw [hz2]; omega) (by unfold maxLen; omega) (Nat.le_refl _) ?_; intro w3 hown3 hgrow3; have O3 := Lib.hid hown3; have W3 := Lib.hid hgrow3; clear hown3 hgrow3)
  rw [HRX.out] at O3 ⊢
  have B3 := Lib.hid (B2.out.grown W3.out B2.out.size (fun k h => by cases h))
  have D3 := Lib.hid (D2.out.only W3.out (by simp))
  have F3 := Lib.hid (F2.out.only W3.out (by simp))
  have M3 := Lib.hid (M2.out.only W3.out (by simp))
  have X3 := Lib.hid (show Below X.heap.size X w3 from (Below.refl _ _).grown W3.out (Nat.le_refl _) (fun k h => by cases h))
  have HRE := Lib.hid (show R < w3.heap.size from (O3.out.lt R rfl).2)
  obtain ⟨E, hE⟩ : ∃ E, w3.heap.size = E := ⟨_, rfl⟩
  obtain ⟨w5, hw5⟩ : ∃ w5, w3.alloc (.cells #[.slice (some ⟨R, 0, none⟩) 0 2144] 24) = w5 := ⟨_, rfl⟩
  have D5 := Lib.hid (show Bk w5 D 85 (lfS Ae ce ly tr qq) by rw [← hw5]; exact D3.out.alloc _)
  have F5 := Lib.hid (show Bk w5 F 86 #[.slice (some ⟨fb, fo, none⟩) 67 c1] by rw [← hw5]; exact F3.out.alloc _)
  have M5 := Lib.hid (show Bk w5 g 26 (mkA As 32 cs Al 32 cl Ae 32 ce) by rw [← hw5]; exact M3.out.alloc _)
  have E5 := Lib.hid (show Bk w5 E 24 #[.slice (some ⟨R, 0, none⟩) 0 2144] by rw [← hw5]; exact Bk.newAt _ _ _ _ hE)
  have O5 := Lib.hid (show w5.ownsRow R 5 1 (.slice (some ⟨R, 0, none⟩) 0 2144) 0 [] by rw [← hw5]; exact own_below O3.out ((Below.refl _ _).alloc (Nat.le_refl _) _))
  have B5 := Lib.hid (show Below w.heap.size w w5 by rw [← hw5]; exact B3.out.alloc B3.out.size _)
  have X5 := Lib.hid (show Below X.heap.size X w5 by rw [← hw5]; exact X3.out.alloc X3.out.size _)
  have S5 := Lib.hid (show w5.heap.size = E + 1 by rw [← hw5]; simp [hE])
  have C5 := Lib.hid (show ∀ k, k < 67 → w5.cell? ⟨fb, fo + k, none⟩ = some (.int .i64 ((ds.getD k 0 : Nat) : Int)) from fun k hk => (X5.out.cell (p := ⟨fb, fo + k, none⟩) (by show fb < _; have := HLT.out; have := HRX.out; omega)).trans (C2.out k hk))
  have HEE := Lib.hid (show R < E by rw [← hE]; exact HRE.out)
  rw [hw5, hE]
  clear hw5 hE
  obtain ⟨l0, l1, l2, l3⟩ := lfS_cells D5.out
  have j0 : w5.cell? ⟨g, 0, none⟩ = some (.slice As 32 cs) := M5.out.cell 0
  go_wp2_with (go_at_call 60; ((with_reducible refine (SEC.out _ B5.out).mono ?_); rintro e wL ⟨bk, bc, Ak, ck, rfl, h1, h2, h3, h4, h5, h6⟩; have HBK := Lib.hid (And.intro h1 h2); have K6 := Lib.hid h3; have C6 := Lib.hid h4; have O6 := Lib.hid h5; have B6 := Lib.hid h6; clear h1 h2 h3 h4 h5 h6))
  clear l0 l1 l2 l3 j0
  have hsz := S5.out
  have hsk := HBK.out
  have hB6 := B6.out.size
  have hlt := HLT.out
  have hee := HEE.out
  have HSL := Lib.hid (show w.heap.size ≤ R ∧ D < R ∧ F < R ∧ fb < R ∧ R < E ∧ E < bk ∧ E < bc ∧ E < wL.heap.size from ⟨by omega, by omega, by omega, by omega, hee, by omega, by omega, by omega⟩)
  have BL := Lib.hid (B5.out.trans (B6.out.mono B5.out.size))
  have DL := Lib.hid (D5.out.below B6.out (by omega))
  have FL := Lib.hid (F5.out.below B6.out (by omega))
  have EL0 := Lib.hid (E5.out.below B6.out (by omega))
  have OL := Lib.hid (own_below O5.out B6.out)
  have CL := Lib.hid (show ∀ k, k < 67 → wL.cell? ⟨fb, fo + k, none⟩ = some (.int .i64 ((ds.getD k 0 : Nat) : Int)) from fun k hk => (B6.out.cell (p := ⟨fb, fo + k, none⟩) (by show fb < _; omega)).trans (C5.out k hk))
  have hOK : ∀ X, KE2 wL.heap.size E R wL X → Bk X bk 24 #[.slice Ak 32 ck] ∧ Bk X bc 112 #[.func (.func 88) #[] #[.pointer (some ⟨bk, 0, none⟩)]] ∧ Rd X Ak 32 ck key := fun X h => ⟨h.bk K6.out K6.out.lt (by omega) (by omega), h.bk C6.out C6.out.lt (by omega) (by omega), h.rd (Rd.own O6.out) fun a ha => by
    have h5 := O6.out
    rw [ha] at h5
    have := h5.lt a.block rfl
    omega⟩
  have HOK := Lib.hid hOK
  have NIL := Lib.hid (show LS w wL E R R U 0 wL from ⟨KE2.refl _, BL.out, _, EL0.out, by simpa [cat, bv] using OL.out, fun r e => .inl (by simpa [Value.ownBlock] using e.symm)⟩)
  clear hsz hsk hB6 hlt hee hOK
  refine (wpIn_wide (n := 3)).1 ?_
  refine RD.range_rounds (m := 3) (gf := 112) (lb := #[.pointer (some ⟨bc, 0, none⟩)]) (encs := encR) rfl (enters_of Tryz.func112 (by kernel_rfl) rfl)
    (chains_secrets 2 (by omega) bc bk S (fun _ => True) (fun X => Below w.heap.size w X ∧ Bk X bk 24 #[.slice Ak 32 ck] ∧ Rd X Ak 32 ck key) (fun X k ⟨h1, h2, h3⟩ hk => (SOF.out X k bk Ak ck h1 hk h2 h3).mono fun e X' ⟨A, c, he, hr, hb⟩ => ⟨A, c, he, ⟨hr, trivial⟩, hb⟩)) (fun _ _ => rfl)
    (LS w wL E R R U) (LS.own (by have := HSL.out; omega)) (fun k X h => by
      obtain ⟨h1, h2, h3⟩ := HOK.out X h.ke
      exact ⟨h2, h.bel, h1, h3⟩) NIL.out
    (fun k x X l o o' ⟨h, h'⟩ _ hl ho => ⟨(CK.putObj hl ho).rd h, h'⟩) ?a1 ?assign ?body ?done
  case assign =>
    intro l k x W K hK
    gi_wp2
    exact hK
  case body =>
    rintro l k ⟨Ax, cx⟩ W hI hk ⟨hx, _⟩
    obtain ⟨v, hE, hO, hr⟩ := hI.sig
    have HE := Lib.hid hE
    have HO := Lib.hid hO
    have HRR := Lib.hid hr
    have HII := Lib.hid hI
    have BW := Lib.hid hI.bel
    have RX := Lib.hid hx
    have HSZ := Lib.hid (show wL.heap.size ≤ W.drew.heap.size from hI.ke.size)
    obtain ⟨xk, hxk⟩ : ∃ xk, xk = ds.getD k 0 := ⟨_, rfl⟩
    have UPK := Lib.hid (fun (X : World) (B : Option Addr) (cB : Nat) (h1 : Below w.heap.size w X) (h2 : Rd X B 32 cB (S k)) => UP.out X k B cB h1 hk h2)
    have CK1 := Lib.hid (CL.out k hk)
    rw [← hxk] at UPK CK1
    have LK := Lib.hid (show ∀ X, KE2 wL.heap.size E R W.drew X → X.cell? ⟨D, 0, none⟩ = some (.slice Ae 32 ce) ∧ X.cell? ⟨D, 1, none⟩ = some (.int .u32 (ly : Int)) ∧ X.cell? ⟨D, 2, none⟩ = some (.int .u64 (tr : Int)) ∧ X.cell? ⟨D, 3, none⟩ = some (.int .u32 (qq : Int)) ∧ X.cell? ⟨F, 0, none⟩ = some (.slice (some ⟨fb, fo, none⟩) 67 c1) ∧ X.cell? ⟨fb, fo + k, none⟩ = some (.int .i64 (xk : Int)) from fun X h => by
      have hs := HSL.out
      have h' := (HII.out.ke.trans (KE2.bel (Below.refl _ _).drew)).trans h
      obtain ⟨a0, a1, a2, a3⟩ := lf_keep2 h' DL.out (by omega) (by omega) (by omega)
      exact ⟨a0, a1, a2, a3, h'.cell (FL.out.cell 0) (by show F < _; omega) (by show F ≠ _; omega) (by show F ≠ _; omega), h'.cell CK1.out (by show fb < _; omega) (by show fb ≠ _; omega) (by show fb ≠ _; omega)⟩)
    have HS0 := Lib.hid (LK.out _ (KE2.refl _))
    have e0 : W.drew.cell? ⟨E, 0, none⟩ = some v := by have := HE.out.drew.cell 0; simpa using this
    have T0 : (k : Int) < 67 := by omega
    have T1 : (0 : Int) ≤ (k : Int) := by omega
    clear hE hO hr hI hx hxk
    gi_wp2_with (fail)
    refine RD.h_begin (fun X => X.cell? ⟨D, 0, none⟩ = some (.slice Ae 32 ce) ∧ X.cell? ⟨D, 1, none⟩ = some (.int .u32 (ly : Int)) ∧ X.cell? ⟨D, 2, none⟩ = some (.int .u64 (tr : Int)) ∧ X.cell? ⟨D, 3, none⟩ = some (.int .u32 (qq : Int)) ∧ X.cell? ⟨F, 0, none⟩ = some (.slice (some ⟨fb, fo, none⟩) 67 c1) ∧ X.cell? ⟨fb, fo + k, none⟩ = some (.int .i64 (xk : Int))) 11 (by kernel_rfl) ?_ (by kernel_rfl) rfl ?_
    · rintro ⟨_, _, h, _⟩
      cases h
    refine RD.h_take 1 (.agg #[.slice Ae 32 ce, .int .u32 (ly : Int), .int .u64 (tr : Int), .int .u32 (qq : Int)]) rfl (by kernel_rfl) (by kernel_rfl) (by kernel_rfl) (fun _ _ _ h => h) (by rfl) HS0.out (fun X hX => ?_) ?_
    · obtain ⟨h0, h1, h2, h3, h4, h5⟩ := hX
      go_simp
    simp only [Act.put, List.setIfInBounds_toArray, List.set_cons_zero, List.set_cons_succ]
    refine RD.h_take 2 (.int .i64 (k : Int)) rfl (by kernel_rfl) (by kernel_rfl) (by kernel_rfl) (fun _ _ _ h => h) (by rfl) HS0.out (fun X hX => ?_) ?_
    · obtain ⟨h0, h1, h2, h3, h4, h5⟩ := hX
      go_simp
    simp only [Act.put, List.setIfInBounds_toArray, List.set_cons_zero, List.set_cons_succ]
    refine RD.h_take 3 (.slice (some ⟨fb, fo, none⟩) 67 c1) rfl (by kernel_rfl) (by kernel_rfl) (by kernel_rfl) (fun _ _ _ h => h) (by rfl) HS0.out (fun X hX => ?_) ?_
    · obtain ⟨h0, h1, h2, h3, h4, h5⟩ := hX
      go_simp
    simp only [Act.put, List.setIfInBounds_toArray, List.set_cons_zero, List.set_cons_succ]
    refine RD.h_take 4 (.int .i64 (k : Int)) rfl (by kernel_rfl) (by kernel_rfl) (by kernel_rfl) (fun _ _ _ h => h) (by rfl) HS0.out (fun X hX => ?_) ?_
    · obtain ⟨h0, h1, h2, h3, h4, h5⟩ := hX
      go_simp
    simp only [Act.put, List.setIfInBounds_toArray, List.set_cons_zero, List.set_cons_succ]
    refine RD.h_take 5 (.pointer (some ⟨fb, fo + k, none⟩)) rfl (by kernel_rfl) (by kernel_rfl) (by kernel_rfl) (fun _ _ _ h => h) (by rfl) HS0.out (fun X hX => ?_) ?_
    · obtain ⟨h0, h1, h2, h3, h4, h5⟩ := hX
      go_simp
    simp only [Act.put, List.setIfInBounds_toArray, List.set_cons_zero, List.set_cons_succ]
    refine RD.h_take 6 (.int .i64 (xk : Int)) rfl (by kernel_rfl) (by kernel_rfl) (by kernel_rfl) (fun _ _ _ h => h) (by rfl) HS0.out (fun X hX => ?_) ?_
    · obtain ⟨h0, h1, h2, h3, h4, h5⟩ := hX
      go_simp
    simp only [Act.put, List.setIfInBounds_toArray, List.set_cons_zero, List.set_cons_succ]
    refine RD.h_take 7 (.slice Ax 32 cx) rfl (by kernel_rfl) (by kernel_rfl) (by kernel_rfl) (fun _ _ _ h => h) (by rfl) HS0.out (fun X hX => ?_) ?_
    · obtain ⟨h0, h1, h2, h3, h4, h5⟩ := hX
      go_simp
    simp only [Act.put, List.setIfInBounds_toArray, List.set_cons_zero, List.set_cons_succ]
    refine RD.h_any [0, 8] (by kernel_rfl) (by simp) (RD.two_of ?_ ?_)
    · refine RD.h_run v W.drew rfl (by rfl) (by go_simp) ⟨HS0.out, ?_⟩
      simp only [Act.put, List.setIfInBounds_toArray, List.set_cons_zero, List.set_cons_succ]
      refine RD.h_any [8] (by kernel_rfl) (by simp) (RD.one_of ?_)
      refine RD.h_call 61 #[(.agg #[.slice Ae 32 ce, .int .u32 (ly : Int), .int .u64 (tr : Int), .int .u32 (qq : Int)]), .int .i64 (k : Int), .int .i64 0, .int .i64 (xk : Int), .slice Ax 32 cx] rfl (by rfl) (by go_simp) ((UPK.out W.drew Ax cx BW.out.drew RX.out.drew).mono ?_)
      rintro e X1 ⟨A5, c5, rfl, r5, b5⟩
      have R5 := Lib.hid r5
      have B5 := Lib.hid b5
      have E1 := HE.out.drew.below b5 HE.out.drew.lt
      have e1 := E1.cell 0
      simp at e1
      have HS1 := Lib.hid (LK.out _ (KE2.bel b5))
      clear r5 b5
      refine ⟨_, rfl, HS1.out, ?_⟩
      simp only [Act.put, List.setIfInBounds_toArray, List.set_cons_zero, List.set_cons_succ]
      refine RD.h_any [9] (by kernel_rfl) (by simp) (RD.one_of ?_)
      refine RD.h_op rfl (step_append_rd (by rfl) (.tmp 39) (.tmp 47) (by rfl) R v (32 * k) (cat U k) (by rfl) (own_below (own_below HO.out (Below.refl _ _).drew) B5.out) A5 32 c5 (U k) (by rfl) R5.out (by omega) (by have q1 := B5.out.size; have q2 := HSZ.out; have q3 := HSL.out; omega) ?_)
      intro v' X3 o3 g3 a3
      have E3 : Bk X3 E 24 #[v] := (HE.out.drew.below B5.out HE.out.drew.lt).only g3 (fun e => by have := HRR.out E e.symm; have := HSL.out; omega)
      have e3 := E3.cell 0
      have f3 := E3.frozen 0
      simp at e3
      have HS3 := Lib.hid (LK.out _ ((KE2.bel B5.out).trans (KE2.grown g3 HRR.out)))
      have HS4 := Lib.hid (LK.out _ (((KE2.bel B5.out).trans (KE2.grown g3 HRR.out)).trans (KE2.set X3 0 v')))
      have HX := Lib.hid (LS.step (R := R) (by have := HSL.out; omega) (Nat.le_refl _) (by have := HSL.out; omega) (by have := HSL.out; omega) HII.out HE.out HO.out HRR.out B5.out o3 g3 a3)
      obtain ⟨Av, cv, hv⟩ := own_form o3
      clear o3 g3 a3 E3
      subst hv
      refine ⟨HS3.out, ?_⟩
      simp only [Act.put, List.setIfInBounds_toArray, List.set_cons_zero, List.set_cons_succ]
      refine RD.h_any [10] (by kernel_rfl) (by simp) (RD.one_of ?_)
      refine RD.h_skip (X3.setCell ⟨E, 0, none⟩ (.slice Av (32 * k + 32) cv)) rfl (by rfl) (by go_simp) ⟨HS4.out, ?_⟩
      simp only [Act.put, List.setIfInBounds_toArray, List.set_cons_zero, List.set_cons_succ]
      exact RD.h_done (by kernel_rfl) ⟨rfl, HX.out⟩
    · refine RD.h_call 61 #[(.agg #[.slice Ae 32 ce, .int .u32 (ly : Int), .int .u64 (tr : Int), .int .u32 (qq : Int)]), .int .i64 (k : Int), .int .i64 0, .int .i64 (xk : Int), .slice Ax 32 cx] rfl (by rfl) (by go_simp) ((UPK.out W.drew Ax cx BW.out.drew RX.out.drew).mono ?_)
      rintro e X1 ⟨A5, c5, rfl, r5, b5⟩
      have R5 := Lib.hid r5
      have B5 := Lib.hid b5
      have E1 := HE.out.drew.below b5 HE.out.drew.lt
      have e1 := E1.cell 0
      simp at e1
      have HS1 := Lib.hid (LK.out _ (KE2.bel b5))
      clear r5 b5
      refine ⟨_, rfl, HS1.out, ?_⟩
      simp only [Act.put, List.setIfInBounds_toArray, List.set_cons_zero, List.set_cons_succ]
      refine RD.h_any [0] (by kernel_rfl) (by simp) (RD.one_of ?_)
      refine RD.h_run v X1 rfl (by rfl) (by go_simp) ⟨HS1.out, ?_⟩
      simp only [Act.put, List.setIfInBounds_toArray, List.set_cons_zero, List.set_cons_succ]
      refine RD.h_any [9] (by kernel_rfl) (by simp) (RD.one_of ?_)
      refine RD.h_op rfl (step_append_rd (by rfl) (.tmp 39) (.tmp 47) (by rfl) R v (32 * k) (cat U k) (by rfl) (own_below (own_below HO.out (Below.refl _ _).drew) B5.out) A5 32 c5 (U k) (by rfl) R5.out (by omega) (by have q1 := B5.out.size; have q2 := HSZ.out; have q3 := HSL.out; omega) ?_)
      intro v' X3 o3 g3 a3
      have E3 : Bk X3 E 24 #[v] := (HE.out.drew.below B5.out HE.out.drew.lt).only g3 (fun e => by have := HRR.out E e.symm; have := HSL.out; omega)
      have e3 := E3.cell 0
      have f3 := E3.frozen 0
      simp at e3
      have HS3 := Lib.hid (LK.out _ ((KE2.bel B5.out).trans (KE2.grown g3 HRR.out)))
      have HS4 := Lib.hid (LK.out _ (((KE2.bel B5.out).trans (KE2.grown g3 HRR.out)).trans (KE2.set X3 0 v')))
      have HX := Lib.hid (LS.step (R := R) (by have := HSL.out; omega) (Nat.le_refl _) (by have := HSL.out; omega) (by have := HSL.out; omega) HII.out HE.out HO.out HRR.out B5.out o3 g3 a3)
      obtain ⟨Av, cv, hv⟩ := own_form o3
      clear o3 g3 a3 E3
      subst hv
      refine ⟨HS3.out, ?_⟩
      simp only [Act.put, List.setIfInBounds_toArray, List.set_cons_zero, List.set_cons_succ]
      refine RD.h_any [10] (by kernel_rfl) (by simp) (RD.one_of ?_)
      refine RD.h_skip (X3.setCell ⟨E, 0, none⟩ (.slice Av (32 * k + 32) cv)) rfl (by rfl) (by go_simp) ⟨HS4.out, ?_⟩
      simp only [Act.put, List.setIfInBounds_toArray, List.set_cons_zero, List.set_cons_succ]
      exact RD.h_done (by kernel_rfl) ⟨rfl, HX.out⟩
  case done =>
    intro D' W hD' hI hK
    obtain ⟨v, hE, hO, hr⟩ := hI.sig
    have HO := Lib.hid hO
    have BW := Lib.hid hI.bel
    have HKD := Lib.hid hK
    have e0 : W.cell? ⟨E, 0, none⟩ = some v := by have := hE.cell 0; simpa using this
    clear hE hO hr hI hK
    go_wp2
    have MK := HKD.out
    refine ⟨by simp, .inl ⟨_, _, rfl, run_takeDeferred MK, ?_⟩⟩
    exact ⟨_, results_tmp rfl _ _ _, New.mk ((CK.putObj MK rfl).own (own_base HO.out (by have := HSL.out; omega))) (BW.out.trans (belowK_b (w := wL) (by have := HSL.out; omega) W D' _ _ hD' MK rfl rfl))⟩
theorem sign_may (As : Option Addr) (cs : Nat) (sec : List UInt8) (Al : Option Addr) (cl : Nat) (Ae : Option Addr) (ce : Nat) (sd : List UInt8) (ly tr qq : Nat) (At : Option Addr) (ct : Nat) (text : List UInt8) (w : World) (hk : GK w) (hs : Rd w As 32 cs sec) (he : Rd w Ae 32 ce sd) (ht : Rd w At 32 ct text) (h1 : ly < 4294967296) (h2 : tr < 18446744073709551616) (h3 : qq < 4294967296) :
    Calls Tryz.prog 28 #[.agg (mkA As 32 cs Al 32 cl Ae 32 ce), .int .u32 (ly : Int), .int .u64 (tr : Int), .int .u32 (qq : Int), .slice At 32 ct] w (New w.heap.size w (signL sec sd (adQ ly tr qq) text)) := by
  rw [sig_cat]
  exact sign_core As cs Al cl Ae ce ly tr qq At ct w (fun k => secL sec (adQ ly tr qq) k) (fun k => upL sd (adQ ly tr qq) k 0 ((S7.allL 4 text).getD k 0) (secL sec (adQ ly tr qq) k)) (S7.allL 4 text) (prfL sec (adB (adQ ly tr qq) 0))
    (fun X => may_any15 As 32 cs Al 32 cl Ae 32 ce X)
    (fun X hX => all_land At ct text X (hk.bel hX) (ht.below hX))
    (fun X hX => secrets_any Ae ce ly tr qq As cs sec X (hk.bel hX) (hs.below hX) h1 h2 h3)
    (fun X k bk Ak ck hX hk' hb hr => sec1_any k hk' bk Ak ck sec (adQ ly tr qq) X (hk.bel hX) hb hr)
    (fun X k B cB hX hk' hz => (up_any Ae ce ly tr qq k 0 ((S7.allL 4 text).getD k 0) (by omega) (by have := all_le (text := text) k; omega) sd B cB _ X (hk.bel hX) (he.below hX) hz (by omega) h1 h2 h3).mono fun e X' ⟨A, c, h1, h2, _, h4⟩ => ⟨A, c, h1, h2, h4⟩)
    (all_67 text ht.len)
set_option maxHeartbeats 1000000 in
theorem sign_not (As : Option Addr) (ns cs : Nat) (Al : Option Addr) (nl cl : Nat) (Ae : Option Addr) (ne ce : Nat) (ly tr qq : Nat) (At : Option Addr) (nt ct : Nat) (w : World) (h : mayN ns nl ne = false ∨ nt ≠ 32) :
    Calls Tryz.prog 28 #[.agg (mkA As ns cs Al nl cl Ae ne ce), .int .u32 (ly : Int), .int .u64 (tr : Int), .int .u32 (qq : Int), .slice At nt ct] w (New w.heap.size w []) := by
  obtain ⟨g, hg⟩ : ∃ g, g = w.heap.size := ⟨_, rfl⟩
  obtain ⟨w0, hw0⟩ : ∃ w0, w.alloc (.cells (mkA As ns cs Al nl cl Ae ne ce) 26) = w0 := ⟨_, rfl⟩
  have M0 := Lib.hid (show Bk w0 g 26 (mkA As ns cs Al nl cl Ae ne ce) by rw [← hw0, hg]; exact Bk.new _ _ _)
  have B0 := Lib.hid (show Below w.heap.size w w0 by rw [← hw0]; exact (Below.refl _ _).alloc (Nat.le_refl _) _)
  have k0 : w0.cell? ⟨g, 0, none⟩ = some (.slice As ns cs) := M0.out.cell 0
  have k1 : w0.cell? ⟨g, 1, none⟩ = some (.slice Al nl cl) := M0.out.cell 1
  have k2 : w0.cell? ⟨g, 2, none⟩ = some (.slice Ae ne ce) := M0.out.cell 2
  cases hm : mayN ns nl ne
  · have MY := Lib.hid (show ∀ X, Calls Tryz.prog 52 #[.agg #[.slice As ns cs, .slice Al nl cl, .slice Ae ne ce]] X fun e w' => e = .returned (.bool false) ∧ Below X.heap.size X w' from fun X => by rw [← hm]; exact may_any15 As ns cs Al nl cl Ae ne ce X)
    clear h hm
    go_enter Tryz.func28, Tryz.ntmps28
    go_upto_region 1 with (fail)
    rw [← hg]
    clear hw0 hg
    go_wp2_with (go_at_call 52; ((with_reducible refine (MY.out _).mono ?_); rintro e w1 ⟨rfl, b1⟩; have B1 := Lib.hid (B0.out.trans (b1.mono B0.out.size)); clear b1))
    go_ret
    exact New.mk (World.ownsRow_nil _ _ _ _) B1.out
  · have MY := Lib.hid (show ∀ X, Calls Tryz.prog 52 #[.agg #[.slice As ns cs, .slice Al nl cl, .slice Ae ne ce]] X fun e w' => e = .returned (.bool true) ∧ Below X.heap.size X w' from fun X => by rw [← hm]; exact may_any15 As ns cs Al nl cl Ae ne ce X)
    have t1 : ((nt : Int) == 32) = false := by
      rcases h with h | h
      · rw [hm] at h; cases h
      · simp; omega
    clear h hm
    go_enter Tryz.func28, Tryz.ntmps28
    go_upto_region 1 with (fail)
    rw [← hg]
    clear hw0 hg
    go_wp2_with (go_at_call 52; ((with_reducible refine (MY.out _).mono ?_); rintro e w1 ⟨rfl, b1⟩; have B1 := Lib.hid (B0.out.trans (b1.mono B0.out.size)); clear b1))
    go_ret
    exact New.mk (World.ownsRow_nil _ _ _ _) B1.out
theorem signW_any (As : Option Addr) (ns cs : Nat) (sec : List UInt8) (Al : Option Addr) (nl cl : Nat) (salt : List UInt8) (Ae : Option Addr) (ne ce : Nat) (sd : List UInt8) (ly tr qq : Nat) (At : Option Addr) (nt ct : Nat) (text : List UInt8) (w : World) (hk : GK w) (hs : Rd w As ns cs sec) (hl : Rd w Al nl cl salt) (he : Rd w Ae ne ce sd) (ht : Rd w At nt ct text) (h1 : ly < 4294967296) (h2 : tr < 18446744073709551616) (h3 : qq < 4294967296) :
    Calls Tryz.prog 28 #[.agg (mkA As ns cs Al nl cl Ae ne ce), .int .u32 (ly : Int), .int .u64 (tr : Int), .int .u32 (qq : Int), .slice At nt ct] w (New w.heap.size w (signW sec salt sd ly tr qq text)) := by
  unfold signW
  rw [hs.len, hl.len, he.len, ht.len]
  by_cases h : mayN ns nl ne = true ∧ nt = 32
  · rw [if_pos h]
    obtain ⟨h, rfl⟩ := h
    obtain ⟨rfl, rfl, rfl⟩ := mayN_iff.1 h
    exact sign_may As cs sec Al cl Ae ce sd ly tr qq At ct text w hk hs he ht h1 h2 h3
  · rw [if_neg h]
    refine sign_not As ns cs Al nl cl Ae ne ce ly tr qq At nt ct w ?_
    by_cases h' : mayN ns nl ne = true
    · exact .inr fun e => h ⟨h', e⟩
    · exact .inl (by simpa using h')
/-- What the landed wplus does. -/
noncomputable def W0 : WC where
  ok := GK
  bel := fun h hb => h.bel hb
  may := fun As ns cs sec Al nl cl salt Ae ne ce sd w _ _ _ _ => may_any15 As ns cs Al nl cl Ae ne ce w
  leaf := fun As ns cs sec Al nl cl salt Ae ne ce sd ly tr qq w hk hs hl he h1 h2 h3 => leafW_any As ns cs sec Al nl cl salt Ae ne ce sd ly tr qq w hk hs hl he h1 h2 h3
  sign := fun As ns cs sec Al nl cl salt Ae ne ce sd ly tr qq At nt ct text w hk hs hl he ht h1 h2 h3 => signW_any As ns cs sec Al nl cl salt Ae ne ce sd ly tr qq At nt ct text w hk hs hl he ht h1 h2 h3
  stands := fun Ae ne ce sd ly tr qq At nt ct text Ag ng cg sig w hk he ht hg h1 h2 h3 => standW_any Ae ne ce sd ly tr qq At nt ct text Ag ng cg sig w hk he ht hg h1 h2 h3
end Go.Proofs.YtkpfppiedadmbaaGreatDoor.S15
