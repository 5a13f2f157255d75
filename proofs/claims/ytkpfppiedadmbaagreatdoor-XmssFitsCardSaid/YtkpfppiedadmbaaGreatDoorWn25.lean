/-
  Texts put together: Xm2, Xn1. No statement is proved here.
-/
import Derived.Test.YtkpfppiedadmbaaGreatDoorWn11
import Derived.Test.YtkpfppiedadmbaaGreatDoorWn24
import Derived.Test.YtkpfppiedadmbaaGreatDoorWn23
import Derived.Maps.AppendAt
import Derived.Test.YtkpfppiedadmbaaGreatDoorWn17

/-
  Slices of slices of rows in memory: what each element is, and in which blocks it lies; one that grows, and one that is filled. No statement is proved here.
-/
namespace Go.Proofs.YtkpfppiedadmbaaGreatDoor.S16
set_option linter.unusedSimpArgs false
set_option linter.unusedVariables false
set_option maxRecDepth 1024
open Go.RowKit S15

/-- What the j-th element of a slice is; its memory lies in blocks of S. -/
abbrev El := World → (Nat → Prop) → Nat → Value → Prop
/-- It hangs on these blocks alone. -/
structure FP (P : El) : Prop where
  kc : ∀ {w w' : World} {S : Nat → Prop} {j : Nat} {v : Value}, P w S j v → w.heap.size ≤ w'.heap.size → (∀ (b : Nat) (o : Obj), S b → w.heap[b]? = some o → o.isCells = true → w'.heap[b]? = some o) → P w' S j v
  lt : ∀ {w : World} {S : Nat → Prop} {j : Nat} {v : Value}, P w S j v → P w (fun b => S b ∧ b < w.heap.size) j v
  weak : ∀ {w : World} {S S' : Nat → Prop} {j : Nat} {v : Value}, P w S j v → (∀ b, S b → S' b) → P w S' j v
theorem FP.keep {P : El} (hP : FP P) {w w' : World} {S : Nat → Prop} {j : Nat} {v : Value} (h : P w S j v) (hs : w.heap.size ≤ w'.heap.size) (hk : ∀ b, S b → b < w.heap.size → w'.heap[b]? = w.heap[b]?) : P w' S j v :=
  hP.kc h hs fun b o hb ho _ => (hk b hb (Array.getElem?_eq_some_iff.1 ho).1).trans ho
/-- A cell is as it was where its block is. -/
theorem cell_kc {w w' : World} {S : Nat → Prop} {b off : Nat} {v : Value} (h : w.cell? ⟨b, off, none⟩ = some v) (hb : S b) (hk : ∀ (b : Nat) (o : Obj), S b → w.heap[b]? = some o → o.isCells = true → w'.heap[b]? = some o) : w'.cell? ⟨b, off, none⟩ = some v := by
  obtain ⟨o, h1, h2⟩ := RD.cells_of h
  exact (World.cell?_of_block (a := ⟨b, off, none⟩) ((hk b o hb h1 h2).trans h1.symm)).trans h
/-- A row of bytes. -/
def rowE (f : Nat → List UInt8) : El := fun w S j v => ∃ A n c, v = .slice A n c ∧ Rd w A n c (f j) ∧ ∀ a, 0 < n → A = some a → S a.block
theorem rowE_fp (f : Nat → List UInt8) : FP (rowE f) := by
  refine ⟨?_, ?_, ?_⟩
  · rintro w w' S j v ⟨A, n, c, rfl, h, hS⟩ hs hk
    refine ⟨A, n, c, rfl, ⟨h.len, h.cap, h.max, h.nil, fun hn => ?_⟩, hS⟩
    obtain ⟨b, off, rfl, hb, hc⟩ := h.at_ hn
    exact ⟨b, off, rfl, Nat.lt_of_lt_of_le hb hs, fun j hj => cell_kc (hc j hj) (hS _ hn rfl) hk⟩
  · rintro w S j v ⟨A, n, c, rfl, h, hS⟩
    refine ⟨A, n, c, rfl, h, fun a hn ha => ⟨hS a hn ha, ?_⟩⟩
    obtain ⟨b, off, rfl, hb, _⟩ := h.at_ hn
    injection ha with ha
    subst ha
    exact hb
  · rintro w S S' j v ⟨A, n, c, rfl, h, hS⟩ hw
    exact ⟨A, n, c, rfl, h, fun a hn ha => hw _ (hS a hn ha)⟩
theorem rowE_new {w : World} {B n c : Nat} {A : Option Addr} {xs : List UInt8} {f : Nat → List UInt8} {j : Nat} (h : w.ownsRow B 5 1 (.slice A n c) n (bv xs)) (hf : f j = xs) : rowE f w (fun b => B ≤ b) j (.slice A n c) :=
  ⟨A, n, c, rfl, by rw [hf]; exact Rd.own h, fun a _ ha => (h.lt a.block (by rw [ha]; rfl)).1⟩
/-- A slice whose elements are so. -/
structure Sl (P : El) (w : World) (S : Nat → Prop) (A : Option Addr) (n c : Nat) : Prop where
  cap : n ≤ c
  max : c ≤ maxLen
  nil : A = none → c = 0
  at_ : 0 < n → ∃ b off, A = some ⟨b, off, none⟩ ∧ b < w.heap.size ∧ S b ∧ ∀ j, j < n → ∃ u, w.cell? ⟨b, off + j, none⟩ = some u ∧ P w S j u
section
variable {P : El} {w w' : World} {S S' : Nat → Prop} {A : Option Addr} {n c : Nat}
theorem Sl.kc (hP : FP P) (h : Sl P w S A n c) (hs : w.heap.size ≤ w'.heap.size) (hk : ∀ (b : Nat) (o : Obj), S b → w.heap[b]? = some o → o.isCells = true → w'.heap[b]? = some o) : Sl P w' S A n c :=
  ⟨h.cap, h.max, h.nil, fun hn => by
    obtain ⟨b, off, e, hb, hS, hc⟩ := h.at_ hn
    refine ⟨b, off, e, Nat.lt_of_lt_of_le hb hs, hS, fun j hj => ?_⟩
    obtain ⟨u, h1, h2⟩ := hc j hj
    exact ⟨u, cell_kc h1 hS hk, hP.kc h2 hs hk⟩⟩
theorem Sl.keep (hP : FP P) (h : Sl P w S A n c) (hs : w.heap.size ≤ w'.heap.size) (hk : ∀ b, S b → b < w.heap.size → w'.heap[b]? = w.heap[b]?) : Sl P w' S A n c :=
  h.kc hP hs fun b o hb ho _ => (hk b hb (Array.getElem?_eq_some_iff.1 ho).1).trans ho
theorem Sl.ck (hP : FP P) (h : Sl P w S A n c) (hc : RD.CK w w') : Sl P w' S A n c := h.kc hP hc.size fun b o _ ho hoc => hc.same b o ho hoc
theorem Sl.below (hP : FP P) (h : Sl P w S A n c) (hb : Below w.heap.size w w') : Sl P w' S A n c := h.keep hP hb.size fun b _ hlt => hb.block b hlt
theorem Sl.lt (hP : FP P) (h : Sl P w S A n c) : Sl P w (fun b => S b ∧ b < w.heap.size) A n c :=
  ⟨h.cap, h.max, h.nil, fun hn => by
    obtain ⟨b, off, e, hb, hS, hc⟩ := h.at_ hn
    refine ⟨b, off, e, hb, ⟨hS, hb⟩, fun j hj => ?_⟩
    obtain ⟨u, h1, h2⟩ := hc j hj
    exact ⟨u, h1, hP.lt h2⟩⟩
theorem Sl.weak (hP : FP P) (h : Sl P w S A n c) (hw : ∀ b, S b → S' b) : Sl P w S' A n c :=
  ⟨h.cap, h.max, h.nil, fun hn => by
    obtain ⟨b, off, e, hb, hS, hc⟩ := h.at_ hn
    refine ⟨b, off, e, hb, hw b hS, fun j hj => ?_⟩
    obtain ⟨u, h1, h2⟩ := hc j hj
    exact ⟨u, h1, hP.weak h2 hw⟩⟩
theorem Sl.take (h : Sl P w S A n c) {k : Nat} (hk : k ≤ n) : Sl P w S A k c :=
  ⟨Nat.le_trans hk h.cap, h.max, h.nil, fun hn => by
    obtain ⟨b, off, e, hb, hS, hc⟩ := h.at_ (by omega)
    exact ⟨b, off, e, hb, hS, fun j hj => hc j (by omega)⟩⟩
end
/-- Slices of such. -/
def slE (m : Nat → Nat) (Q : Nat → El) : El := fun w S j v => ∃ A c, v = .slice A (m j) c ∧ Sl (Q j) w S A (m j) c
theorem slE_fp {m : Nat → Nat} {Q : Nat → El} (h : ∀ j, FP (Q j)) : FP (slE m Q) := by
  refine ⟨?_, ?_, ?_⟩
  · rintro w w' S j v ⟨A, c, rfl, hs⟩ h1 h2
    exact ⟨A, c, rfl, hs.kc (h j) h1 h2⟩
  · rintro w S j v ⟨A, c, rfl, hs⟩
    exact ⟨A, c, rfl, hs.lt (h j)⟩
  · rintro w S S' j v ⟨A, c, rfl, hs⟩ hw
    exact ⟨A, c, rfl, hs.weak (h j) hw⟩
/-- A new slice of n of which the first q are so; none lies in its own block. -/
structure Gr (P : El) (T : TypeId) (w : World) (B : Nat) (v : Value) (n q : Nat) (vs : List Value) : Prop where
  own : w.ownsRow B T 1 v n vs
  el : ∀ j, j < q → ∃ u, vs[j]? = some u ∧ P w (fun b => B ≤ b ∧ v.ownBlock ≠ some b) j u
section
variable {P : El} {T : TypeId} {w w' : World} {B n q : Nat} {v : Value} {vs : List Value}
theorem Gr.nil_ (P : El) (T : TypeId) (w : World) (B : Nat) : Gr P T w B (.slice none 0 0) 0 0 [] := ⟨World.ownsRow_nil _ _ _ _, fun j hj => absurd hj (by omega)⟩
theorem Gr.start (h : w.ownsRow B T 1 v n vs) : Gr P T w B v n 0 vs := ⟨h, fun j hj => absurd hj (by omega)⟩
theorem Gr.below (hP : FP P) (h : Gr P T w B v n q vs) (hb : Below w.heap.size w w') : Gr P T w' B v n q vs :=
  ⟨own_below h.own hb, fun j hj => by
    obtain ⟨u, h1, h2⟩ := h.el j hj
    exact ⟨u, h1, hP.keep h2 hb.size fun b _ hlt => hb.block b hlt⟩⟩
theorem Gr.form (h : Gr P T w B v n q vs) : ∃ A c, v = .slice A n c := own_form h.own
theorem Gr.ck (hP : FP P) (h : Gr P T w B v n q vs) (hc : RD.CK w w') : Gr P T w' B v n q vs :=
  ⟨hc.own h.own, fun j hj => by
    obtain ⟨u, h1, h2⟩ := h.el j hj
    exact ⟨u, h1, hP.kc h2 hc.size fun b o _ ho hoc => hc.same b o ho hoc⟩⟩
/-- What is known of cells alone abides where another block turns. -/
theorem Gr.keep (hP : FP P) (h : Gr P T w B v n q vs) {row : Option Nat} (hg : w.grownBy w' row) (hr : ∀ b, row = some b → b < B) : Gr P T w' B v n q vs :=
  ⟨h.own.kept hg (by
    by_cases e : v.ownBlock = none
    · exact .inl e
    · refine .inr fun e' => ?_
      obtain ⟨g, hg'⟩ := Option.ne_none_iff_exists'.1 e
      have h1 := (h.own.lt g hg').1
      have h2 := hr g (by rw [← e', hg'])
      omega), fun j hj => by
    obtain ⟨u, h1, h2⟩ := h.el j hj
    refine ⟨u, h1, hP.keep h2 hg.size fun b hb hlt => hg.block b hlt fun e => ?_⟩
    have := hr b e.symm
    have := hb.1
    omega⟩
/-- More elements, put behind. -/
theorem Gr.push (hP : FP P) (h : Gr P T w B v n n vs) {v' : Value} {m : Nat} {news : List Value} (ho : w'.ownsRow B T 1 v' (n + m) (vs ++ news)) (hg : w.grownBy w' v.ownBlock)
    (hw : v'.ownBlock = v.ownBlock ∨ v'.ownBlock = some w.heap.size) (hn : ∀ i, i < m → ∃ u, news[i]? = some u ∧ P w (fun b => B ≤ b ∧ v.ownBlock ≠ some b) (n + i) u) : Gr P T w' B v' (n + m) (n + m) (vs ++ news) := by
  have hl : vs.length = n := by have := h.own.1; omega
  have key : ∀ j u, P w (fun b => B ≤ b ∧ v.ownBlock ≠ some b) j u → P w' (fun b => B ≤ b ∧ v'.ownBlock ≠ some b) j u := by
    intro j u hp
    have h1 := hP.keep (w' := w') (hP.lt hp) hg.size fun b hb hlt => hg.block b hlt fun e => hb.1.2 e.symm
    refine hP.weak h1 fun b hb => ⟨hb.1.1, fun e => ?_⟩
    rcases hw with hw | hw
    · exact hb.1.2 (hw ▸ e)
    · rw [hw] at e
      have := Option.some.inj e
      have := hb.2
      omega
  refine ⟨ho, fun j hj => ?_⟩
  rcases Nat.lt_or_ge j n with h1 | h1
  · obtain ⟨u, h2, h3⟩ := h.el j h1
    exact ⟨u, by rw [List.getElem?_append_left (by omega)]; exact h2, key _ _ h3⟩
  · obtain ⟨u, h2, h3⟩ := hn (j - n) (by omega)
    rw [show n + (j - n) = j by omega] at h3
    exact ⟨u, by rw [List.getElem?_append_right (by omega), hl]; exact h2, key _ _ h3⟩
/-- The next one is filled in. -/
theorem Gr.set (hP : FP P) {g c : Nat} (h : Gr P T w B (.slice (some ⟨g, 0, none⟩) n c) n q vs) (hq : q < n) (u : Value) (ho : (w.setCell ⟨g, q, none⟩ u).ownsRow B T 1 (.slice (some ⟨g, 0, none⟩) n c) n (vs.set q u))
    (hu : P w (fun b => B ≤ b ∧ g ≠ b) q u) : Gr P T (w.setCell ⟨g, q, none⟩ u) B (.slice (some ⟨g, 0, none⟩) n c) n (q + 1) (vs.set q u) := by
  have hl : vs.length = n := by have := h.own.1; omega
  have hs : w.heap.size ≤ (w.setCell ⟨g, q, none⟩ u).heap.size := (Below.refl g w).setCell (p := ⟨g, q, none⟩) (Nat.le_refl _) u |>.size
  have hk : ∀ b, g ≠ b → b < w.heap.size → (w.setCell ⟨g, q, none⟩ u).heap[b]? = w.heap[b]? := fun b hb hlt => Below.heap_setCell w ⟨g, q, none⟩ u b (Ne.symm hb)
  refine ⟨ho, fun j hj => ?_⟩
  by_cases e : j = q
  · subst e
    exact ⟨u, by rw [List.getElem?_set_self (by omega)], hP.weak (hP.keep hu hs fun b hb hlt => hk b hb.2 hlt) fun b hb => ⟨hb.1, fun e => hb.2 (by simpa [Value.ownBlock] using e)⟩⟩
  · obtain ⟨u', h2, h3⟩ := h.el j (by omega)
    exact ⟨u', by rw [List.getElem?_set_ne (Ne.symm e)]; exact h2, hP.keep h3 hs fun b hb hlt => hk b (fun e => hb.2 (by rw [← e]; rfl)) hlt⟩
/-- It is read. -/
theorem Gr.read {A : Option Addr} {c : Nat} (hP : FP P) (h : Gr P T w B (.slice A n c) n n vs) : Sl P w (fun b => B ≤ b) A n c := by
  have hl : vs.length = n := by have := h.own.1; omega
  rcases h.own.2 with ⟨h1, hn⟩ | ⟨g, cap, cur, h1, hB, hh, hnc, hcm, _, htake⟩
  · injection h1 with h1 h2 h3
    subst h1 h2 h3
    exact ⟨Nat.le_refl _, by simp [maxLen], fun _ => rfl, fun h => absurd h (by omega)⟩
  · have ho := h.own
    have he := h.el
    injection h1 with h1 h2 h3
    subst h1 h3
    refine ⟨hnc, hcm, (fun h => by cases h), fun hn => ⟨g, 0, rfl, (Array.getElem?_eq_some_iff.1 hh).1, hB, fun j hj => ?_⟩⟩
    obtain ⟨u, h2, h3⟩ := he j hj
    have := ho.cellAt j (by omega)
    exact ⟨u, by rw [Nat.zero_add, this]; exact h2, hP.weak h3 fun b hb => hb.1⟩
end
end Go.Proofs.YtkpfppiedadmbaaGreatDoor.S16

/-
  A row cut in parts of 32 bytes, which are put one behind the other: what the library's Chunk, AppendSeq and Collect do. No statement is proved here.
-/
namespace Go.Proofs.YtkpfppiedadmbaaGreatDoor.S16
set_option linter.unusedSimpArgs false
set_option linter.unusedVariables false
set_option maxRecDepth 4096
open Go.RowKit Go.Shelf S15
attribute [local go_sem] Oper.semAt_some

theorem chunk_any (A : Option Addr) (n c : Nat) (w : World) :
    Calls Tryz.prog 73 #[.slice A n c, .int .i64 32] w fun e w' => e = .returned (.func (.func 97) #[] #[.pointer (some ⟨w.heap.size, 0, none⟩), .pointer (some ⟨w.heap.size + 1, 0, none⟩)]) ∧ w' = (w.alloc (.cells #[.slice A n c] 24)).alloc (.cells #[.int .i64 32] 3) := by
  have hmf : ∀ (fn : Fn) (first cap : Array Value) (w : World), (Instr.makeFunc fn first cap).run Tryz.prog w = .ok (.func fn first cap) w := fun _ _ _ _ => rfl
  go_enter Tryz.func73, Tryz.ntmps73
  go_wp2
  go_ret
  exact ⟨rfl, rfl⟩
theorem run_cutLHM {A : Option Addr} {n c l' m : Nat} {l h : Int} (hl : l = l') (hh : h = l' + m) (hm : 0 < m) (hk : l' + m ≤ c) (W : World) :
    (Instr.slice 24 (.slice A n c) (some (.int .i64 l)) (some (.int .i64 h)) (some (.int .i64 h))).run Tryz.prog W = .ok (.slice (A.map (·.add l')) m m) W := by
  have ee : Tryz.prog.elem 24 = 5 := by kernel_rfl
  have hs : (sizeOf 5).run Tryz.prog W = .ok 1 W := by kernel_rfl
  have e1 : h.toNat - l' = m := by omega
  have e2 : l.toNat = l' := by omega
  have e3 : ¬ h.toNat = l' := by omega
  rw [run_slice_lhm W 24 A n c (by rw [ee]; exact Tryz.underlying24) .i64 .i64 .i64 l h h (by omega) (by omega) (by omega) (by omega), ee, hs]
  simp only [Result.andThen, sliced, Nat.mul_one, e2, e1, if_neg e3]
theorem run_cutLHMAt {A : Option Addr} {n c l' m : Nat} {l h : Int} (hl : l = l') (hh : h = l' + m) (hm : 0 < m) (hk : l' + m ≤ c) (W : World) :
    (Instr.sliceAt 24 (.slice A n c) (some (.int .i64 l)) (some (.int .i64 h)) (some (.int .i64 h))).run Tryz.prog W = .ok (.slice (A.map (·.add l')) m m) W := by
  have ee : Tryz.prog.elem 24 = 5 := by kernel_rfl
  rw [run_sliceAt_slice W 24 _ _ _ _ (by rw [ee]; exact Tryz.underlying24)]
  exact run_cutLHM hl hh hm hk W
theorem run_min2d {P : Program} (k : IntKind) (a b : Int) (w : World) : (Builtin.min2 (.int k a) (.int k b)).run P w = .ok (.int k (min a b)) w := by
  have e : (if b < a then b else a) = min a b := by split <;> omega
  simp only [Builtin.min2, e]
  rfl
theorem run_min2c {P : Program} (ts : Array TypeId) (t : TypeId) (k : IntKind) (a b r : Int) (h : min a b = r) (w : World) :
    (Builtin.min_ ts t #[.int k a, .int k b]).run P w = .ok (.int k r) w := by
  subst h
  simp [Builtin.min_, List.foldlM, run_min2d]
/-- The k-th part. -/
abbrev prt (A : Option Addr) (k : Nat) : Value := .slice (A.map (·.add (32 * k))) 32 32
set_option maxHeartbeats 2000000 in
theorem chunk_it (m : Nat) (hm : 1 ≤ m) (b1 b2 h c : Nat) (A : Option Addr) (hc : 32 * h ≤ c) (hh : h ≤ 60) :
    RD.ItW Tryz.prog m 97 #[.pointer (some ⟨b1, 0, none⟩), .pointer (some ⟨b2, 0, none⟩)] (fun k (_ : Unit) => #[prt A k]) (fun _ _ _ => True) h (fun X => Bk X b1 24 #[.slice A (32 * h : Nat) c] ∧ Bk X b2 3 #[.int .i64 32]) := by
  intro lp J W hJb hJo hY h0
  have HJB := Lib.hid hJb
  have HJO := Lib.hid hJo
  have HY := Lib.hid hY
  clear hJb hJo hY
  obtain ⟨M, hM⟩ : ∃ M : Nat, M = 32 * h := ⟨_, rfl⟩
  rw [← hM] at HJO hc
  have hM2 : M ≤ 1920 := by omega
  have HM := Lib.hid hM
  have g1 : W.cell? ⟨b1, 0, none⟩ = some (.slice A M c) := (HJO.out _ _ h0).1.cell 0
  clear hM
  refine callsIn_of_wp (args := #[.func (.yield lp) #[] #[], .pointer (some ⟨b1, 0, none⟩), .pointer (some ⟨b2, 0, none⟩)]) Tryz.func97 rfl trivial ?_ rfl
  simp only [Tryz.ntmps97, List.size_toArray, List.length_cons, List.length_nil, Nat.reduceAdd, Nat.reduceSub, Array.replicate_succ, Array.replicate_zero, List.push_toArray, List.append_toArray, List.nil_append, List.cons_append]
  gi_wp2_with (fail)
  gi_loopw [4] (fun i wr => ∃ j : Nat, j ≤ h ∧ i = .int .i64 ((32 * j : Nat) : Int) ∧ J j wr) (fun i _ => h - (intOf i).toNat / 32)
  case atStart => exact ⟨0, Nat.zero_le _, rfl, h0⟩
  case round =>
    obtain ⟨j, hj, rfl, hJ⟩ := hrel
    obtain ⟨K, hK⟩ : ∃ K : Nat, K = 32 * j := ⟨_, rfl⟩
    rw [← hK]
    obtain ⟨hb1, hb2⟩ := HJO.out _ _ hJ
    have k1 : wr.cell? ⟨b1, 0, none⟩ = some (.slice A M c) := hb1.cell 0
    have k2 : wr.cell? ⟨b2, 0, none⟩ = some (.int .i64 32) := hb2.cell 0
    have HJ := Lib.hid hJ
    by_cases hlt : j < h
    · have t0 : (K : Int) < (M : Int) := by have := HM.out; omega
      have hKM : K + 32 ≤ M := by have := HM.out; omega
      obtain ⟨A', hA'⟩ : ∃ A', A' = if c = K then A else A.map (·.add K) := ⟨_, rfl⟩
      have C1 : ∀ X, (Instr.slice 24 (.slice A M c) (some (.int .i64 (K : Int))) none none).run Tryz.prog X = .ok (.slice A' (M - K) (c - K)) X := fun X => by rw [hA']; exact S2.run_cutSl rfl (by omega) X
      have C2 : ∀ X, (Instr.sliceAt 24 (.slice A M c) (some (.int .i64 (K : Int))) none none).run Tryz.prog X = .ok (.slice A' (M - K) (c - K)) X := fun X => by rw [hA']; exact S2.run_cutSlAt rfl (by omega) X
      have D1 : ∀ X, (Instr.slice 24 (.slice A M c) (some (.int .i64 (K : Int))) (some (.int .i64 ((K : Int) + 32))) (some (.int .i64 ((K : Int) + 32)))).run Tryz.prog X = .ok (.slice (A.map (·.add K)) 32 32) X := fun X => run_cutLHM (l' := K) (m := 32) rfl rfl (by omega) (by omega) X
      have D2 : ∀ X, (Instr.sliceAt 24 (.slice A M c) (some (.int .i64 (K : Int))) (some (.int .i64 ((K : Int) + 32))) (some (.int .i64 ((K : Int) + 32)))).run Tryz.prog X = .ok (.slice (A.map (·.add K)) 32 32) X := fun X => run_cutLHMAt (l' := K) (m := 32) rfl rfl (by omega) (by omega) X
      obtain ⟨R, hR⟩ : ∃ R : Nat, R = M - K := ⟨_, rfl⟩
      rw [← hR] at C1 C2
      have mn : ∀ X, (Builtin.min_ #[3, 3] 3 #[.int .i64 32, .int .i64 (R : Int)]).run Tryz.prog X = .ok (.int .i64 32) X := fun X => run_min2c _ _ _ _ _ _ (by omega) X
      have w1 : IntKind.i64.wrap ((K : Int) + 32) = (K : Int) + 32 := by rw [IntKind.wrap_i64]; omega
      have YX := Lib.hid (show YieldAt Fence.wide (m - 1) Tryz.prog lp #[.slice (A.map (·.add K)) 32 32] wr.drew fun e X' => e = .returned (.bool true) ∧ J (j + 1) X' from by
        have h9 := HY.out j () wr.drew (HJB.out _ _ _ HJ.out (Below.refl _ _).drew) hlt trivial
        rw [hK]
        exact h9)
      have HK := Lib.hid hK
      have BD := Lib.hid (Below.refl wr.heap.size wr).drew
      clear hJ h0 hb1 hb2 hA' hR hK g1
      gi_wp2_with (fail)
      refine wpIn_wide.2 ?_
      (go_region_held3 (fun X => X.cell? ⟨b1, 0, none⟩ = some (.slice A M c) ∧ X.cell? ⟨b2, 0, none⟩ = some (.int .i64 32)) (exact ⟨k1, k2⟩) (fail))
      obtain ⟨fn, tmps, assign, body, hy, hRR⟩ := YX.out
      gi_wp2_with (first
        | (refine hRR.mono ?_; rintro e w2 ⟨rfl, hJ2⟩; have J2 := Lib.hid hJ2; have c2 : w2.cell? ⟨b2, 0, none⟩ = some (.int .i64 32) := (HJO.out _ _ hJ2).2.cell 0; clear hJ2)
        | (refine ⟨trivial, ?_⟩; refine hRR.mono ?_; rintro e w2 ⟨rfl, hJ2⟩; have J2 := Lib.hid hJ2; have c2 : w2.cell? ⟨b2, 0, none⟩ = some (.int .i64 32) := (HJO.out _ _ hJ2).2.cell 0; clear hJ2)
        | (refine ⟨trivial, fun h => (by simp [Fence.wide] at h), ?_⟩; refine hRR.mono ?_; rintro e w2 ⟨rfl, hJ2⟩; have J2 := Lib.hid hJ2; have c2 : w2.cell? ⟨b2, 0, none⟩ = some (.int .i64 32) := (HJO.out _ _ hJ2).2.cell 0; clear hJ2))
      go_roundw
      case rel => exact ⟨j + 1, by omega, by rw [HK.out]; go_num, J2.out⟩
      case measure => have := HK.out; simp [intOf]; omega
    · obtain rfl : j = h := by omega
      have t0 : ¬ (K : Int) < (M : Int) := by have := HM.out; omega
      clear hJ h0 hb1 hb2 hK g1
      gi_wp2
      go_end0
      exact ⟨⟨_, rfl⟩, HJ.out⟩
/-- The parts of a row. -/
def prts (A : Option Addr) (k : Nat) : List Value := (List.range k).map (prt A)
theorem prts_succ (A : Option Addr) (k : Nat) : prts A (k + 1) = prts A k ++ [prt A k] := by simp [prts, List.range_succ]
theorem prts_get (A : Option Addr) {k j : Nat} (h : j < k) : (prts A k)[j]? = some (prt A j) := by simp [prts, h]
theorem ownsRow_put {w : World} {base size n : Nat} {e : TypeId} {v : Value} {xs : List Value} (h : w.ownsRow base e size v n xs) {l : Nat} {o : Obj} (o' : Obj) (hl : w.heap[l]? = some o) (ho : o.isCells = false) : (w.putObj l o').ownsRow base e size v n xs :=
  (RD.CK.putObj hl ho).own h
set_option maxHeartbeats 2000000 in
theorem gather_any (A : Option Addr) (h c b1 b2 : Nat) (w : World) (hc : 32 * h ≤ c) (hh : h ≤ 60) (h1 : Bk w b1 24 #[.slice A (32 * h : Nat) c]) (h2 : Bk w b2 3 #[.int .i64 32]) :
    Calls Tryz.prog 96 #[.slice none 0 0, .func (.func 97) #[] #[.pointer (some ⟨b1, 0, none⟩), .pointer (some ⟨b2, 0, none⟩)]] w fun e w' => ∃ A' c', e = .returned (.slice A' h c') ∧ w'.ownsRow w.heap.size 24 1 (.slice A' h c') h (prts A h) ∧ Below w.heap.size w w' := by
  refine (callsIn_wide (n := 3)).1 ?_
  obtain ⟨i0, hi, hz0, hz1, hz2⟩ := info_parts Tryz.infoRows
  have H1 := Lib.hid h1
  have H2 := Lib.hid h2
  have bO := Boxed.new w 61 (.slice none 0 0)
  have hB0 : Below w.heap.size w (w.alloc (.cells #[.slice none 0 0] 61)) := (Below.refl _ w).alloc (Nat.le_refl _) _
  have HX := Lib.hid (show Boxed (w.alloc (.cells #[.slice none 0 0] 61)) w.heap.size 61 (.slice none 0 0) ∧ Below w.heap.size w (w.alloc (.cells #[.slice none 0 0] 61)) ∧ (w.alloc (.cells #[.slice none 0 0] 61)).heap.size = w.heap.size + 1 from ⟨bO, hB0, by simp⟩)
  clear h1 h2 bO hB0
  refine callsIn_of_wp_marks Tryz.func96 rfl trivial ?_ rfl
  simp only [Tryz.ntmps96, List.size_toArray, List.length_cons, List.length_nil, Nat.reduceAdd, Nat.reduceSub, Array.replicate_succ, Array.replicate_zero, List.push_toArray, List.append_toArray, List.nil_append, List.cons_append]
  gi_wp2
  obtain ⟨wL, hL⟩ : ∃ wL, w.alloc (.cells #[.slice none 0 0] 61) = wL := ⟨_, rfl⟩
  rw [hL] at HX ⊢
  clear hL
  obtain ⟨bO, hB0, hsz⟩ := HX.out
  clear HX
  refine RD.range_rounds (m := 3) (gf := 97) (lb := #[.pointer (some ⟨b1, 0, none⟩), .pointer (some ⟨b2, 0, none⟩)]) (encs := fun k (_ : Unit) => #[prt A k]) rfl (enters_of Tryz.func97 (by kernel_rfl) rfl)
    (chunk_it 2 (by omega) b1 b2 h c A hc hh) (fun _ _ => rfl)
    (fun k W => (∃ u, Boxed W w.heap.size 61 u ∧ W.ownsRow wL.heap.size 24 1 u k (prts A k) ∧ True) ∧ Below w.heap.size w W ∧ wL.heap.size ≤ W.heap.size)
    (OwnFrom.and (Own.from (holdsRow_own wL.heap.size w.heap.size 61 24 1 (fun k => k) (fun k : Nat => prts A k) (fun _ u => True)) _) (OwnFrom.and (ownFrom_below (Nat.le_refl _) (by omega)) (fun _ _ _ _ h hg _ => Nat.le_trans h hg.size)))
    (fun k X hI => ⟨H1.out.below hI.2.1 H1.out.lt, H2.out.below hI.2.1 H2.out.lt⟩)
    ⟨⟨_, bO, World.ownsRow_nil _ _ _ _, trivial⟩, hB0, Nat.le_refl _⟩
    (fun _ _ _ _ _ _ _ _ _ _ => trivial)
    (fun k _ => { tmps := #[.slice none 0 0, .func (.func 97) #[] #[.pointer (some ⟨b1, 0, none⟩), .pointer (some ⟨b2, 0, none⟩)], .pointer (some ⟨w.heap.size, 0, none⟩), undef, .slice none 0 0, prt A k, .func (.func 97) #[] #[.pointer (some ⟨b1, 0, none⟩), .pointer (some ⟨b2, 0, none⟩)], prt A k, undef, undef, undef, undef, undef], defers := [] }) ?assign ?body ?done
  case assign =>
    intro l k x W K hK
    gi_wp2
    exact hK
  case body =>
    rintro l k x W ⟨⟨u, hu, hrow, _⟩, hB, hWs⟩ hlt _
    have hc := hu.cell
    obtain ⟨A2, hA2⟩ : ∃ A2, A2 = A.map (·.add (32 * k)) := ⟨_, rfl⟩
    have HPV := Lib.hid (show Value.slice A2 32 32 = prt A k by rw [hA2])
    unfold prt
    rw [← hA2]
    clear hA2
    gi_wp2_with (gi_at_builtin; refine wpListIn_append_own _ rfl _ _ 61 rfl wL.heap.size 24 i0 (.slice none 0 0) 1 24 Tryz.underlying61 hi hz0 hz1 hz2 rfl (by decide) _ _ _ rfl (hrow.alloc _) ⟨W.heap.size, 0, none⟩ 1 1 [.slice A2 32 32] rfl rfl (cell_one_new _ _ _) (by simp [Value.oneCell']) (by simp only [maxLen]; omega) (by omega) (by simp; omega) ?_; intro v' w1 hown' hgrow _; obtain ⟨g', cap', rfl⟩ := ownsRow_succ hown'; obtain ⟨hv1, hv2, hr2, hk2, hb2, hb3⟩ := appended2 hu hrow hWs (by omega) hown' hgrow; have hc1 := hv1.cell; have hf1 := hv1.frozen)
    exact ⟨hk2.from _, ⟨_, hv2, by rw [prts_succ, ← HPV.out, ← hsz]; exact hr2⟩, hB.trans (hb2 _ (Nat.le_refl _)), by have := (hb2 w.heap.size (Nat.le_refl _)).size; simp at this; omega⟩
  case done =>
    intro D' W hD' ⟨⟨u, hu, hrow, _⟩, hB, _⟩ hK
    obtain ⟨Au, cu, rfl⟩ := own_form hrow
    have hc := hu.cell
    have HR := Lib.hid hrow
    have HB := Lib.hid hB
    have HK := Lib.hid hK
    clear hrow hB hK
    gi_wp2
    refine ⟨by simp, .inl ⟨_, _, rfl, run_takeDeferred HK.out, ?_⟩⟩
    exact ⟨_, results_tmp rfl _ _ _, Au, cu, rfl, own_base ((RD.CK.putObj HK.out rfl).own HR.out) (by omega), HB.out.trans (belowK_b (w := w) (Nat.le_refl _) W D' _ _ (by omega) HK.out rfl rfl)⟩
end Go.Proofs.YtkpfppiedadmbaaGreatDoor.S16
