/-
  Texts put together: XmK, XmL. No statement is proved here.
-/
import Derived.Test.YtkpfppiedadmbaaGreatDoorWo37
import Derived.Test.YtkpfppiedadmbaaGreatDoorWo29

/-
  The landed package xmss: one tree more, one row more. No statement is proved here.
-/
namespace Go.Proofs.YtkpfppiedadmbaaGreatDoor.S16
set_option linter.unusedSimpArgs false
set_option linter.unusedVariables false
set_option maxRecDepth 1024
open Go.RowKit S15 RD

theorem Tryz.infoSums : (Tryz.prog.info? 54).map (fun i => (i.zero, i.size, i.bytes)) = some (some (.slice none 0 0), 1, 24) := by kernel_rfl
theorem grown_set (X : World) (g i : Nat) (v : Value) : X.grownBy (X.setCell ⟨g, i, none⟩ v) (some g) := by
  have h := (Below.refl g X).setCell (p := ⟨g, i, none⟩) (Nat.le_refl _) v
  exact ⟨h.os, h.tape, h.output, h.size, fun k _ hk => Below.heap_setCell X ⟨g, i, none⟩ v k fun e => hk (by rw [show k = g from e])⟩
theorem own_cells {w : World} {B e n b : Nat} {v : Value} {xs : List Value} (h : w.ownsRow B e 1 v n xs) (hb : v.ownBlock = some b) : ∃ o : Obj, w.heap[b]? = some o ∧ o.isCells = true := by
  rcases h.2 with ⟨rfl, _⟩ | ⟨g, cap, cur, rfl, _, hh, _⟩
  · simp [Value.ownBlock] at hb
  · simp [Value.ownBlock] at hb
    subst hb
    exact ⟨_, hh, rfl⟩
theorem Gr.far {P : El} {T : TypeId} {w : World} {B n q g : Nat} {v u : Value} {vs : List Value} (hP : FP P) (h : Gr P T w B v n q vs) (hg : g < B) (i : Nat) : Gr P T (w.setCell ⟨g, i, none⟩ u) B v n q vs :=
  h.keep hP (grown_set w g i u) fun b e => by cases e; exact hg
/-- One tree more. -/
theorem TI.step {w wL W X1 X3 : World} {sec sd : List UInt8} {h n ET bn k z gg cap c5 : Nat} {v : Value} {vs : List Value} {A5 : Option Addr} (hw : w.heap.size ≤ ET) (hd : ET < bn) (hb : bn < wL.heap.size) (hI : TI w wL sec sd h n ET bn k z W) (hzw : wL.heap.size ≤ z) (hz : z ≤ W.heap.size)
    (hB : Bk W ET 47 #[v]) (hR : Gr (treesE sec sd h n) 54 W wL.heap.size v k k vs) (hlt : ∀ b, v.ownBlock = some b → b < z)
    (b5 : Below W.drew.heap.size W.drew X1) (s5 : Sl (treeE sec sd k (nT h n (k + 1)) h) X1 (fun b => W.drew.heap.size ≤ b) A5 (h + 1) c5)
    (o3 : X3.ownsRow wL.heap.size 54 1 (.slice (some ⟨gg, 0, none⟩) (k + 1) cap) (k + 1) (vs ++ [.slice A5 (h + 1) c5])) (g3 : (X1.alloc (.cells #[.slice A5 (h + 1) c5] 54)).grownBy X3 v.ownBlock) (a3 : v.ownBlock = some gg ∨ gg = X1.heap.size + 1) (l3 : gg < X3.heap.size) :
    KeepsFrom wL.heap.size W (X3.setCell ⟨ET, 0, none⟩ (.slice (some ⟨gg, 0, none⟩) (k + 1) cap)) ∧ (∀ (b : Nat) (o : Obj), z ≤ b → W.heap[b]? = some o → o.isCells = true → (X3.setCell ⟨ET, 0, none⟩ (.slice (some ⟨gg, 0, none⟩) (k + 1) cap)).heap[b]? = some o) ∧
      Bk (X3.setCell ⟨ET, 0, none⟩ (.slice (some ⟨gg, 0, none⟩) (k + 1) cap)) bn 27 #[.int .u64 ((nT h n k : Nat) : Int)] ∧
      ∀ z', (X3.setCell ⟨ET, 0, none⟩ (.slice (some ⟨gg, 0, none⟩) (k + 1) cap)).heap.size ≤ z' → TI w wL sec sd h n ET bn (k + 1) z' ((X3.setCell ⟨ET, 0, none⟩ (.slice (some ⟨gg, 0, none⟩) (k + 1) cap)).setCell ⟨bn, 0, none⟩ (.int .u64 ((nT h n (k + 1) : Nat) : Int))) := by
  have hbW : Below W.heap.size W X1 := (Below.refl _ _).drew.trans b5
  have hbA : Below W.heap.size W (X1.alloc (.cells #[.slice A5 (h + 1) c5] 54)) := hbW.alloc hbW.size _
  have hrow : ∀ r, v.ownBlock = some r → wL.heap.size ≤ r := fun r e => (hR.own.lt r e).1
  have k3 : KX W.heap.size (fun b => b = ET ∨ v.ownBlock = some b) W X3 := (KX.bel hbA (Nat.le_refl _)).trans (KX.grown' g3 hbA.size fun r e => .inr (.inr e))
  have k8 : KX W.heap.size (fun b => b = ET ∨ v.ownBlock = some b) W (X3.setCell ⟨ET, 0, none⟩ (.slice (some ⟨gg, 0, none⟩) (k + 1) cap)) := k3.trans (KX.set (.inl rfl) _ _ _)
  have hkw := hI.ke.size
  have hbn : Bk (X3.setCell ⟨ET, 0, none⟩ (.slice (some ⟨gg, 0, none⟩) (k + 1) cap)) bn 27 #[.int .u64 ((nT h n k : Nat) : Int)] := k8.bk hI.box hI.box.lt (by
    rintro (e | e)
    · omega
    · have := hrow _ e; omega)
  have hE3 : Bk X3 ET 47 #[v] := (hB.below hbA hB.lt).only g3 (fun e => by have := hrow _ e.symm; omega)
  refine ⟨⟨k8.size, fun b o hb' ho hoc => (k8.same b (Array.getElem?_eq_some_iff.1 ho).1 ?_).trans ho⟩, fun b o hb' ho hoc => (k8.same b (Array.getElem?_eq_some_iff.1 ho).1 ?_).trans ho, hbn, fun z' hz' => ⟨?_, ?_, hbn.put 0 _, .slice (some ⟨gg, 0, none⟩) (k + 1) cap, vs ++ [.slice A5 (h + 1) c5], ?_, ?_, ?_⟩⟩
  · rintro (e | e)
    · omega
    · obtain ⟨o', h1, h2⟩ := own_cells hR.own e
      rw [ho] at h1
      cases h1
      rw [hoc] at h2
      cases h2
  · rintro (e | e)
    · omega
    · have := hlt _ e; omega
  · refine (hI.ke.trans (k8.mono hkw fun b hb' e => ?_)).trans (KX.set (.inr rfl) _ _ _)
    rcases e with e | e
    · exact .inl e
    · have := hrow _ e; omega
  · have h1 : Below w.heap.size w X3 := (hI.bel.trans (hbA.mono hI.bel.size)).grown g3 (Nat.le_trans hI.bel.size hbA.size) (fun r e => by have := hrow _ e; omega)
    exact (h1.setCell (p := ⟨ET, 0, none⟩) hw _).setCell (p := ⟨bn, 0, none⟩) (by show w.heap.size ≤ bn; omega) _
  · exact (hE3.put 0 _).far (by show ET ≠ bn; omega) _
  · have h1 : Gr (treesE sec sd h n) 54 X3 wL.heap.size (.slice (some ⟨gg, 0, none⟩) (k + 1) cap) (k + 1) (k + 1) (vs ++ [.slice A5 (h + 1) c5]) := by
      refine (hR.below (treesE_fp _ _ _ _) hbA).push (treesE_fp _ _ _ _) o3 g3 ?_ fun i hi => ?_
      · rcases a3 with a3 | a3
        · exact .inl a3.symm
        · exact .inr (by simp [Value.ownBlock, a3])
      · obtain rfl : i = 0 := by omega
        refine ⟨_, rfl, A5, c5, rfl, ?_⟩
        refine (s5.below (treeE_fp _ _ _ _ _) ((Below.refl _ _).alloc (Nat.le_refl _) _)).weak (treeE_fp _ _ _ _ _) fun b hb' => ⟨?_, fun e => ?_⟩
        · have : W.drew.heap.size = W.heap.size := rfl
          omega
        · have h2 := hlt b e
          have : W.drew.heap.size = W.heap.size := rfl
          omega
    exact (h1.far (treesE_fp _ _ _ _) (by omega) 0).far (treesE_fp _ _ _ _) hb 0
  · intro b e
    simp [Value.ownBlock] at e
    simp at hz'
    omega
end Go.Proofs.YtkpfppiedadmbaaGreatDoor.S16

/-
  The landed package xmss: parts put behind others. No statement is proved here.
-/
namespace Go.Proofs.YtkpfppiedadmbaaGreatDoor.S16
set_option linter.unusedSimpArgs false
set_option linter.unusedVariables false
set_option maxRecDepth 1024
open Go.RowKit S15 RD

/-- Rows are not touched where a box of no byte is set. -/
theorem Gr.boxR {f : Nat → List UInt8} {T T' : TypeId} {w : World} {B n q g : Nat} {v u0 u : Value} {vs : List Value} (h : Gr (rowE f) T w B v n q vs) (hb : Bk w g T' #[u0]) (hu : ∀ x : UInt8, u0 ≠ .int .u8 (x.toNat : Int)) (hv : v.ownBlock ≠ some g) : Gr (rowE f) T (w.setCell ⟨g, 0, none⟩ u) B v n q vs :=
  ⟨own_only h.own (grown_set w g 0 u) hv, fun j hj => by
    obtain ⟨x, h1, A, m, c, rfl, h2, h3⟩ := h.el j hj
    exact ⟨_, h1, A, m, c, rfl, rd_box h2 hb hu 0 u, h3⟩⟩
theorem push_step {f : Nat → List UInt8} {w W Y Y1 X3 : World} {E2 : Nat → Prop} {EP cnt m gg cap : Nat} {v : Value} {vs news : List Value}
    (hk : KX W.heap.size E2 W Y) (hb : Below w.heap.size w Y) (hEP : E2 EP) (hw : w.heap.size ≤ EP) (hB : Bk Y EP 61 #[v]) (hR : Gr (rowE f) 24 Y w.heap.size v cnt cnt vs) (hv : v.ownBlock ≠ some EP) (hown : ∀ r, v.ownBlock = some r → W.heap.size ≤ r ∨ E2 r) (hn0 : 0 < cnt)
    (b1 : Below Y.heap.size Y Y1) (hn : ∀ i, i < m → ∃ u, news[i]? = some u ∧ rowE f Y1 (fun b => w.heap.size ≤ b ∧ v.ownBlock ≠ some b) (cnt + i) u)
    (o3 : X3.ownsRow w.heap.size 24 1 (.slice (some ⟨gg, 0, none⟩) (cnt + m) cap) (cnt + m) (vs ++ news)) (g3 : Y1.grownBy X3 v.ownBlock) (a3 : v.ownBlock = some gg ∨ gg = Y1.heap.size) (l3 : gg < X3.heap.size) :
    KX W.heap.size E2 W X3 ∧ Bk X3 EP 61 #[v] ∧ KX W.heap.size E2 W (X3.setCell ⟨EP, 0, none⟩ (.slice (some ⟨gg, 0, none⟩) (cnt + m) cap)) ∧ Below w.heap.size w (X3.setCell ⟨EP, 0, none⟩ (.slice (some ⟨gg, 0, none⟩) (cnt + m) cap)) ∧
      Bk (X3.setCell ⟨EP, 0, none⟩ (.slice (some ⟨gg, 0, none⟩) (cnt + m) cap)) EP 61 #[.slice (some ⟨gg, 0, none⟩) (cnt + m) cap] ∧
      Gr (rowE f) 24 (X3.setCell ⟨EP, 0, none⟩ (.slice (some ⟨gg, 0, none⟩) (cnt + m) cap)) w.heap.size (.slice (some ⟨gg, 0, none⟩) (cnt + m) cap) (cnt + m) (cnt + m) (vs ++ news) ∧ gg ≠ EP ∧ (v.ownBlock = some gg ∨ W.heap.size ≤ gg) ∧ gg < (X3.setCell ⟨EP, 0, none⟩ (.slice (some ⟨gg, 0, none⟩) (cnt + m) cap)).heap.size := by
  have h1 : KX W.heap.size E2 W Y1 := hk.trans (KX.bel b1 hk.size)
  have h3 : KX W.heap.size E2 W X3 := h1.trans (KX.grown' g3 h1.size hown)
  have hB3 : Bk X3 EP 61 #[v] := (hB.below b1 hB.lt).only g3 fun e => hv e.symm
  have hb3 : Below w.heap.size w X3 := (hb.trans (b1.mono hb.size)).grown g3 (Nat.le_trans hb.size b1.size) (fun r e => (hR.own.lt r e).1)
  have hne : gg ≠ EP := by
    rcases a3 with a3 | a3
    · intro e
      exact hv (by rw [a3, e])
    · have h5 := hB.lt
      have h6 := b1.size
      omega
  have hG : Gr (rowE f) 24 X3 w.heap.size (.slice (some ⟨gg, 0, none⟩) (cnt + m) cap) (cnt + m) (cnt + m) (vs ++ news) := by
    refine (hR.below (rowE_fp _) b1).push (rowE_fp _) o3 g3 ?_ hn
    rcases a3 with a3 | a3
    · exact .inl a3.symm
    · exact .inr (by simp [Value.ownBlock, a3])
  have hnu : ∀ x : UInt8, v ≠ .int .u8 (x.toNat : Int) := by
    obtain ⟨A, c, rfl⟩ := hR.form
    exact no_u8_slice
  refine ⟨h3, hB3, h3.trans (KX.set hEP _ _ _), hb3.setCell (p := ⟨EP, 0, none⟩) hw _, hB3.put 0 _, hG.boxR hB3 hnu (by simp [Value.ownBlock]; omega), hne, ?_, by simpa using l3⟩
  rcases a3 with a3 | a3
  · exact .inl a3
  · exact .inr (by have := h1.size; omega)
/-- What a round has come to: all that follows. -/
theorem PI.done {w wL W X : World} {sec salt sd : List UInt8} {h n ES EP bn dP k z gg cap c : Nat} {tx : List UInt8} {A : Option Addr} {v : Value} {vs : List Value} (hw : w.heap.size ≤ ES) (h1 : ES < dP) (h2 : dP < EP) (h3 : EP < bn) (h4 : bn < wL.heap.size) (hI : PI w wL sec salt sd h n ES EP bn dP tx k z W) (hzw : wL.heap.size ≤ z)
    (hv : ∀ b, v.ownBlock = some b → b < z ∧ (b = dP ∨ wL.heap.size ≤ b)) (hvc : ∀ b, v.ownBlock = some b → ∃ o : Obj, W.heap[b]? = some o ∧ o.isCells = true)
    (hk : KX W.heap.size (fun b => b = ES ∨ b = EP ∨ v.ownBlock = some b) W X) (hb : Below w.heap.size w X) (hS : Bk X ES 24 #[.slice A 32 c]) (hr : Rd X A 32 c (ofN sec sd h n tx (k + 1))) (ha : ∀ a, A = some a → a.block < ES)
    (hP : Bk X EP 61 #[.slice (some ⟨gg, 0, none⟩) (2 + (k + 1) * (h + 1)) cap]) (hG : Gr (rowE (partR sec salt sd h n tx)) 24 X w.heap.size (.slice (some ⟨gg, 0, none⟩) (2 + (k + 1) * (h + 1)) cap) (2 + (k + 1) * (h + 1)) (2 + (k + 1) * (h + 1)) vs) (hgg : v.ownBlock = some gg ∨ W.heap.size ≤ gg) (hlt : gg < X.heap.size) :
    KeepsFrom wL.heap.size W X ∧ (∀ (b : Nat) (o : Obj), z ≤ b → W.heap[b]? = some o → o.isCells = true → X.heap[b]? = some o) ∧ Bk X bn 27 #[.int .u64 ((nT h n k : Nat) : Int)] ∧
      ∀ z', X.heap.size ≤ z' → PI w wL sec salt sd h n ES EP bn dP tx (k + 1) z' (X.setCell ⟨bn, 0, none⟩ (.int .u64 ((nT h n (k + 1) : Nat) : Int))) := by
  have hkw := hI.ke.size
  have hbn : Bk X bn 27 #[.int .u64 ((nT h n k : Nat) : Int)] := hk.bk hI.box hI.box.lt (by
    rintro (e | e | e)
    · omega
    · omega
    · have := (hv _ e).2; omega)
  have hgw : gg = dP ∨ wL.heap.size ≤ gg := by
    rcases hgg with e | e
    · exact (hv _ e).2
    · exact .inr (by omega)
  refine ⟨⟨hk.size, fun b o hb' ho hoc => (hk.same b (Array.getElem?_eq_some_iff.1 ho).1 ?_).trans ho⟩, fun b o hb' ho hoc => (hk.same b (Array.getElem?_eq_some_iff.1 ho).1 ?_).trans ho, hbn, fun z' hz' => ⟨?_, ?_, hbn.put 0 _, ⟨A, c, hS.far (by show ES ≠ bn; omega) _, rd_box hr hbn no_u8_u64 0 _, ha⟩, .slice (some ⟨gg, 0, none⟩) (2 + (k + 1) * (h + 1)) cap, vs, hP.far (by show EP ≠ bn; omega) _, hG.boxR hbn no_u8_u64 (by simp [Value.ownBlock]; omega), fun b e => ?_⟩⟩
  · rintro (e | e | e)
    · omega
    · omega
    · obtain ⟨o', q1, q2⟩ := hvc _ e
      rw [ho] at q1
      cases q1
      rw [hoc] at q2
      cases q2
  · rintro (e | e | e)
    · omega
    · omega
    · have := (hv _ e).1; omega
  · refine (hI.ke.trans (hk.mono hkw fun b hb' e => ?_)).trans (KX.set (.inr (.inr (.inl rfl))) _ _ _)
    rcases e with e | e | e
    · exact .inl e
    · exact .inr (.inl e)
    · have := (hv _ e).2
      exact .inr (.inr (.inr (by omega)))
  · exact hb.setCell (p := ⟨bn, 0, none⟩) (by show w.heap.size ≤ bn; omega) _
  · simp [Value.ownBlock] at e
    subst e
    exact ⟨by omega, hgw⟩
end Go.Proofs.YtkpfppiedadmbaaGreatDoor.S16
