/-
  Texts put together: Xm2, Xm7, WpK7. No statement is proved here.
-/
import Derived.Test.YtncinobgcfkmnaaGreatDoorWo11
import Derived.Test.YtncinobgcfkmnaaGreatDoorWo25
import Derived.Test.YtncinobgcfkmnaaGreatDoorWo23
import Derived.Maps.AppendAt
import Derived.Test.YtncinobgcfkmnaaGreatDoorWo22

/-
  Slices of slices of rows in memory: what each element is, and in which blocks it lies; one that grows, and one that is filled. No statement is proved here.
-/
namespace Go.Proofs.YtncinobgcfkmnaaGreatDoor.S16
set_option linter.unusedSimpArgs false
set_option linter.unusedVariables false
set_option maxRecDepth 1024
open Go.RowKit S15

/-- What the j-th element of a slice is; its memory lies in blocks of S. -/
abbrev El := World → (Nat → Prop) → Nat → Value → Prop
/-- It hangs on these blocks alone. -/
structure FP (P : El) : Prop where
  kc : ∀ {w w' : World} {S : Nat → Prop} {j : Nat} {v : Value}, P w S j v → w.heap.size ≤ w'.heap.size → (∀ (b : Nat) (o : Obj), S b → w.heap[b]? = some o → o.isCells = true → w'.heap[b]? = some o) → P w' S j v
  lt : ∀ {w : World} {S : Nat → Prop} {j : Nat} {v : Value}, P w S j v → P w (fun b => S b ∧ b < w.heap.size) j v
  weak : ∀ {w : World} {S S' : Nat → Prop} {j : Nat} {v : Value}, P w S j v → (∀ b, S b → S' b) → P w S' j v
theorem FP.keep {P : El} (hP : FP P) {w w' : World} {S : Nat → Prop} {j : Nat} {v : Value} (h : P w S j v) (hs : w.heap.size ≤ w'.heap.size) (hk : ∀ b, S b → b < w.heap.size → w'.heap[b]? = w.heap[b]?) : P w' S j v :=
  hP.kc h hs fun b o hb ho _ => (hk b hb (Array.getElem?_eq_some_iff.1 ho).1).trans ho
/-- A cell is as it was where its block is. -/
theorem cell_kc {w w' : World} {S : Nat → Prop} {b off : Nat} {v : Value} (h : w.cell? ⟨b, off, none⟩ = some v) (hb : S b) (hk : ∀ (b : Nat) (o : Obj), S b → w.heap[b]? = some o → o.isCells = true → w'.heap[b]? = some o) : w'.cell? ⟨b, off, none⟩ = some v := by
  obtain ⟨o, h1, h2⟩ := RD.cells_of h
  exact (World.cell?_of_block (a := ⟨b, off, none⟩) ((hk b o hb h1 h2).trans h1.symm)).trans h
/-- A row of bytes. -/
def rowE (f : Nat → List UInt8) : El := fun w S j v => ∃ A n c, v = .slice A n c ∧ Rd w A n c (f j) ∧ ∀ a, 0 < n → A = some a → S a.block
theorem rowE_fp (f : Nat → List UInt8) : FP (rowE f) := by
  refine ⟨?_, ?_, ?_⟩
  · rintro w w' S j v ⟨A, n, c, rfl, h, hS⟩ hs hk
    refine ⟨A, n, c, rfl, ⟨h.len, h.cap, h.max, h.nil, fun hn => ?_⟩, hS⟩
    obtain ⟨b, off, rfl, hb, hc⟩ := h.at_ hn
    exact ⟨b, off, rfl, Nat.lt_of_lt_of_le hb hs, fun j hj => cell_kc (hc j hj) (hS _ hn rfl) hk⟩
  · rintro w S j v ⟨A, n, c, rfl, h, hS⟩
    refine ⟨A, n, c, rfl, h, fun a hn ha => ⟨hS a hn ha, ?_⟩⟩
    obtain ⟨b, off, rfl, hb, _⟩ := h.at_ hn
    injection ha with ha
    subst ha
    exact hb
  · rintro w S S' j v ⟨A, n, c, rfl, h, hS⟩ hw
    exact ⟨A, n, c, rfl, h, fun a hn ha => hw _ (hS a hn ha)⟩
theorem rowE_new {w : World} {B n c : Nat} {A : Option Addr} {xs : List UInt8} {f : Nat → List UInt8} {j : Nat} (h : w.ownsRow B 5 1 (.slice A n c) n (bv xs)) (hf : f j = xs) : rowE f w (fun b => B ≤ b) j (.slice A n c) :=
  ⟨A, n, c, rfl, by rw [hf]; exact Rd.own h, fun a _ ha => (h.lt a.block (by rw [ha]; rfl)).1⟩
/-- A slice whose elements are so. -/
structure Sl (P : El) (w : World) (S : Nat → Prop) (A : Option Addr) (n c : Nat) : Prop where
  cap : n ≤ c
  max : c ≤ maxLen
  nil : A = none → c = 0
  at_ : 0 < n → ∃ b off, A = some ⟨b, off, none⟩ ∧ b < w.heap.size ∧ S b ∧ ∀ j, j < n → ∃ u, w.cell? ⟨b, off + j, none⟩ = some u ∧ P w S j u
section
variable {P : El} {w w' : World} {S S' : Nat → Prop} {A : Option Addr} {n c : Nat}
theorem Sl.kc (hP : FP P) (h : Sl P w S A n c) (hs : w.heap.size ≤ w'.heap.size) (hk : ∀ (b : Nat) (o : Obj), S b → w.heap[b]? = some o → o.isCells = true → w'.heap[b]? = some o) : Sl P w' S A n c :=
  ⟨h.cap, h.max, h.nil, fun hn => by
    obtain ⟨b, off, e, hb, hS, hc⟩ := h.at_ hn
    refine ⟨b, off, e, Nat.lt_of_lt_of_le hb hs, hS, fun j hj => ?_⟩
    obtain ⟨u, h1, h2⟩ := hc j hj
    exact ⟨u, cell_kc h1 hS hk, hP.kc h2 hs hk⟩⟩
theorem Sl.keep (hP : FP P) (h : Sl P w S A n c) (hs : w.heap.size ≤ w'.heap.size) (hk : ∀ b, S b → b < w.heap.size → w'.heap[b]? = w.heap[b]?) : Sl P w' S A n c :=
  h.kc hP hs fun b o hb ho _ => (hk b hb (Array.getElem?_eq_some_iff.1 ho).1).trans ho
theorem Sl.ck (hP : FP P) (h : Sl P w S A n c) (hc : RD.CK w w') : Sl P w' S A n c := h.kc hP hc.size fun b o _ ho hoc => hc.same b o ho hoc
theorem Sl.below (hP : FP P) (h : Sl P w S A n c) (hb : Below w.heap.size w w') : Sl P w' S A n c := h.keep hP hb.size fun b _ hlt => hb.block b hlt
theorem Sl.lt (hP : FP P) (h : Sl P w S A n c) : Sl P w (fun b => S b ∧ b < w.heap.size) A n c :=
  ⟨h.cap, h.max, h.nil, fun hn => by
    obtain ⟨b, off, e, hb, hS, hc⟩ := h.at_ hn
    refine ⟨b, off, e, hb, ⟨hS, hb⟩, fun j hj => ?_⟩
    obtain ⟨u, h1, h2⟩ := hc j hj
    exact ⟨u, h1, hP.lt h2⟩⟩
theorem Sl.weak (hP : FP P) (h : Sl P w S A n c) (hw : ∀ b, S b → S' b) : Sl P w S' A n c :=
  ⟨h.cap, h.max, h.nil, fun hn => by
    obtain ⟨b, off, e, hb, hS, hc⟩ := h.at_ hn
    refine ⟨b, off, e, hb, hw b hS, fun j hj => ?_⟩
    obtain ⟨u, h1, h2⟩ := hc j hj
    exact ⟨u, h1, hP.weak h2 hw⟩⟩
theorem Sl.take (h : Sl P w S A n c) {k : Nat} (hk : k ≤ n) : Sl P w S A k c :=
  ⟨Nat.le_trans hk h.cap, h.max, h.nil, fun hn => by
    obtain ⟨b, off, e, hb, hS, hc⟩ := h.at_ (by omega)
    exact ⟨b, off, e, hb, hS, fun j hj => hc j (by omega)⟩⟩
end
/-- Slices of such. -/
def slE (m : Nat → Nat) (Q : Nat → El) : El := fun w S j v => ∃ A c, v = .slice A (m j) c ∧ Sl (Q j) w S A (m j) c
theorem slE_fp {m : Nat → Nat} {Q : Nat → El} (h : ∀ j, FP (Q j)) : FP (slE m Q) := by
  refine ⟨?_, ?_, ?_⟩
  · rintro w w' S j v ⟨A, c, rfl, hs⟩ h1 h2
    exact ⟨A, c, rfl, hs.kc (h j) h1 h2⟩
  · rintro w S j v ⟨A, c, rfl, hs⟩
    exact ⟨A, c, rfl, hs.lt (h j)⟩
  · rintro w S S' j v ⟨A, c, rfl, hs⟩ hw
    exact ⟨A, c, rfl, hs.weak (h j) hw⟩
/-- A new slice of n of which the first q are so; none lies in its own block. -/
structure Gr (P : El) (T : TypeId) (w : World) (B : Nat) (v : Value) (n q : Nat) (vs : List Value) : Prop where
  own : w.ownsRow B T 1 v n vs
  el : ∀ j, j < q → ∃ u, vs[j]? = some u ∧ P w (fun b => B ≤ b ∧ v.ownBlock ≠ some b) j u
section
variable {P : El} {T : TypeId} {w w' : World} {B n q : Nat} {v : Value} {vs : List Value}
theorem Gr.nil_ (P : El) (T : TypeId) (w : World) (B : Nat) : Gr P T w B (.slice none 0 0) 0 0 [] := ⟨World.ownsRow_nil _ _ _ _, fun j hj => absurd hj (by omega)⟩
theorem Gr.start (h : w.ownsRow B T 1 v n vs) : Gr P T w B v n 0 vs := ⟨h, fun j hj => absurd hj (by omega)⟩
theorem Gr.below (hP : FP P) (h : Gr P T w B v n q vs) (hb : Below w.heap.size w w') : Gr P T w' B v n q vs :=
  ⟨own_below h.own hb, fun j hj => by
    obtain ⟨u, h1, h2⟩ := h.el j hj
    exact ⟨u, h1, hP.keep h2 hb.size fun b _ hlt => hb.block b hlt⟩⟩
theorem Gr.form (h : Gr P T w B v n q vs) : ∃ A c, v = .slice A n c := own_form h.own
theorem Gr.ck (hP : FP P) (h : Gr P T w B v n q vs) (hc : RD.CK w w') : Gr P T w' B v n q vs :=
  ⟨hc.own h.own, fun j hj => by
    obtain ⟨u, h1, h2⟩ := h.el j hj
    exact ⟨u, h1, hP.kc h2 hc.size fun b o _ ho hoc => hc.same b o ho hoc⟩⟩
/-- What is known of cells alone abides where another block turns. -/
theorem Gr.keep (hP : FP P) (h : Gr P T w B v n q vs) {row : Option Nat} (hg : w.grownBy w' row) (hr : ∀ b, row = some b → b < B) : Gr P T w' B v n q vs :=
  ⟨h.own.kept hg (by
    by_cases e : v.ownBlock = none
    · exact .inl e
    · refine .inr fun e' => ?_
      obtain ⟨g, hg'⟩ := Option.ne_none_iff_exists'.1 e
      have h1 := (h.own.lt g hg').1
      have h2 := hr g (by rw [← e', hg'])
      omega), fun j hj => by
    obtain ⟨u, h1, h2⟩ := h.el j hj
    refine ⟨u, h1, hP.keep h2 hg.size fun b hb hlt => hg.block b hlt fun e => ?_⟩
    have := hr b e.symm
    have := hb.1
    omega⟩
/-- More elements, put behind. -/
theorem Gr.push (hP : FP P) (h : Gr P T w B v n n vs) {v' : Value} {m : Nat} {news : List Value} (ho : w'.ownsRow B T 1 v' (n + m) (vs ++ news)) (hg : w.grownBy w' v.ownBlock)
    (hw : v'.ownBlock = v.ownBlock ∨ v'.ownBlock = some w.heap.size) (hn : ∀ i, i < m → ∃ u, news[i]? = some u ∧ P w (fun b => B ≤ b ∧ v.ownBlock ≠ some b) (n + i) u) : Gr P T w' B v' (n + m) (n + m) (vs ++ news) := by
  have hl : vs.length = n := by have := h.own.1; omega
  have key : ∀ j u, P w (fun b => B ≤ b ∧ v.ownBlock ≠ some b) j u → P w' (fun b => B ≤ b ∧ v'.ownBlock ≠ some b) j u := by
    intro j u hp
    have h1 := hP.keep (w' := w') (hP.lt hp) hg.size fun b hb hlt => hg.block b hlt fun e => hb.1.2 e.symm
    refine hP.weak h1 fun b hb => ⟨hb.1.1, fun e => ?_⟩
    rcases hw with hw | hw
    · exact hb.1.2 (hw ▸ e)
    · rw [hw] at e
      have := Option.some.inj e
      have := hb.2
      omega
  refine ⟨ho, fun j hj => ?_⟩
  rcases Nat.lt_or_ge j n with h1 | h1
  · obtain ⟨u, h2, h3⟩ := h.el j h1
    exact ⟨u, by rw [List.getElem?_append_left (by omega)]; exact h2, key _ _ h3⟩
  · obtain ⟨u, h2, h3⟩ := hn (j - n) (by omega)
    rw [show n + (j - n) = j by omega] at h3
    exact ⟨u, by rw [List.getElem?_append_right (by omega), hl]; exact h2, key _ _ h3⟩
/-- The next one is filled in. -/
theorem Gr.set (hP : FP P) {g c : Nat} (h : Gr P T w B (.slice (some ⟨g, 0, none⟩) n c) n q vs) (hq : q < n) (u : Value) (ho : (w.setCell ⟨g, q, none⟩ u).ownsRow B T 1 (.slice (some ⟨g, 0, none⟩) n c) n (vs.set q u))
    (hu : P w (fun b => B ≤ b ∧ g ≠ b) q u) : Gr P T (w.setCell ⟨g, q, none⟩ u) B (.slice (some ⟨g, 0, none⟩) n c) n (q + 1) (vs.set q u) := by
  have hl : vs.length = n := by have := h.own.1; omega
  have hs : w.heap.size ≤ (w.setCell ⟨g, q, none⟩ u).heap.size := (Below.refl g w).setCell (p := ⟨g, q, none⟩) (Nat.le_refl _) u |>.size
  have hk : ∀ b, g ≠ b → b < w.heap.size → (w.setCell ⟨g, q, none⟩ u).heap[b]? = w.heap[b]? := fun b hb hlt => Below.heap_setCell w ⟨g, q, none⟩ u b (Ne.symm hb)
  refine ⟨ho, fun j hj => ?_⟩
  by_cases e : j = q
  · subst e
    exact ⟨u, by rw [List.getElem?_set_self (by omega)], hP.weak (hP.keep hu hs fun b hb hlt => hk b hb.2 hlt) fun b hb => ⟨hb.1, fun e => hb.2 (by simpa [Value.ownBlock] using e)⟩⟩
  · obtain ⟨u', h2, h3⟩ := h.el j (by omega)
    exact ⟨u', by rw [List.getElem?_set_ne (Ne.symm e)]; exact h2, hP.keep h3 hs fun b hb hlt => hk b (fun e => hb.2 (by rw [← e]; rfl)) hlt⟩
/-- It is read. -/
theorem Gr.read {A : Option Addr} {c : Nat} (hP : FP P) (h : Gr P T w B (.slice A n c) n n vs) : Sl P w (fun b => B ≤ b) A n c := by
  have hl : vs.length = n := by have := h.own.1; omega
  rcases h.own.2 with ⟨h1, hn⟩ | ⟨g, cap, cur, h1, hB, hh, hnc, hcm, _, htake⟩
  · injection h1 with h1 h2 h3
    subst h1 h2 h3
    exact ⟨Nat.le_refl _, by simp [maxLen], fun _ => rfl, fun h => absurd h (by omega)⟩
  · have ho := h.own
    have he := h.el
    injection h1 with h1 h2 h3
    subst h1 h3
    refine ⟨hnc, hcm, (fun h => by cases h), fun hn => ⟨g, 0, rfl, (Array.getElem?_eq_some_iff.1 hh).1, hB, fun j hj => ?_⟩⟩
    obtain ⟨u, h2, h3⟩ := he j hj
    have := ho.cellAt j (by omega)
    exact ⟨u, by rw [Nat.zero_add, this]; exact h2, hP.weak h3 fun b hb => hb.1⟩
end
end Go.Proofs.YtncinobgcfkmnaaGreatDoor.S16

/-
  The landed package xmss: the root of a tree's sums, and the way of a leaf. No statement is proved here.
-/
namespace Go.Proofs.YtncinobgcfkmnaaGreatDoor.S16
set_option linter.unusedSimpArgs false
set_option linter.unusedVariables false
set_option maxRecDepth 1024
open Go.RowKit S15

/-- The sums of a tree, height by height. -/
abbrev hE (sec sd : List UInt8) (ly tr g : Nat) : El := rowE (sumT sec sd ly tr g)
abbrev treeE (sec sd : List UInt8) (ly tr h : Nat) : El := slE (fun g => 2 ^ (h - g)) (hE sec sd ly tr)
theorem treeE_fp (sec sd : List UInt8) (ly tr h : Nat) : FP (treeE sec sd ly tr h) := slE_fp fun g => rowE_fp _
/-- A row of such. -/
theorem row_get {sec sd : List UInt8} {ly tr g n c : Nat} {A : Option Addr} {w : World} {S : Nat → Prop} (h : Sl (hE sec sd ly tr g) w S A n c) {i : Nat} (hi : i < n) :
    ∃ b off A' c', A = some ⟨b, off, none⟩ ∧ b < w.heap.size ∧ S b ∧ w.cell? ⟨b, off + i, none⟩ = some (.slice A' 32 c') ∧ Rd w A' 32 c' (sumT sec sd ly tr g i) ∧ ∀ a, A' = some a → S a.block := by
  obtain ⟨b, off, rfl, hb, hS, hc⟩ := h.at_ (by omega)
  obtain ⟨u, h1, A', n', c', rfl, h2, h3⟩ := hc i hi
  obtain rfl : n' = 32 := h2.len.symm.trans (sum_32 ..)
  exact ⟨b, off, A', c', rfl, hb, hS, h1, h2, fun a ha => h3 a (by omega) ha⟩
theorem tree_get {sec sd : List UInt8} {ly tr h n c : Nat} {A : Option Addr} {w : World} {S : Nat → Prop} (ht : Sl (treeE sec sd ly tr h) w S A n c) {g : Nat} (hg : g < n) :
    ∃ b off A' c', A = some ⟨b, off, none⟩ ∧ b < w.heap.size ∧ S b ∧ w.cell? ⟨b, off + g, none⟩ = some (.slice A' (2 ^ (h - g)) c') ∧ Sl (hE sec sd ly tr g) w S A' (2 ^ (h - g)) c' := by
  obtain ⟨b, off, rfl, hb, hS, hc⟩ := ht.at_ (by omega)
  obtain ⟨u, h1, A', c', rfl, h2⟩ := hc g hg
  exact ⟨b, off, A', c', rfl, hb, hS, h1, h2⟩
set_option maxHeartbeats 1000000 in
theorem root_any (sec sd : List UInt8) (ly tr h : Nat) (A : Option Addr) (c : Nat) (S : Nat → Prop) (w : World) (ht : Sl (treeE sec sd ly tr h) w S A (h + 1) c) :
    Calls Tryz.prog 26 #[.slice A (h + 1) c] w fun e w' => (∃ A' c', e = .returned (.slice A' 32 c') ∧ Rd w A' 32 c' (sumT sec sd ly tr h 0) ∧ ∀ a, A' = some a → S a.block) ∧ w = w' := by
  obtain ⟨b, off, A1, c1, rfl, hb, hS, h1, h2⟩ := tree_get ht (g := h) (by omega)
  rw [Nat.sub_self, Nat.pow_zero] at h1 h2
  obtain ⟨b2, off2, A2, c2, rfl, hb2, hS2, h3, h4, h5⟩ := row_get h2 (i := 0) (by omega)
  rw [Nat.add_zero] at h3
  have hm := ht.max
  have hcp := ht.cap
  unfold maxLen at hm
  obtain ⟨n, hn⟩ : ∃ n, n = h + 1 := ⟨_, rfl⟩
  rw [← hn] at hcp ⊢
  have t1 : (n : Int) - 1 = (h : Int) := by omega
  have t2 : (h : Int) < (n : Int) := by omega
  have t3 : h < n := by omega
  have H4 := Lib.hid h4
  have H5 := Lib.hid h5
  clear ht h2 h4 h5 hn hb hb2 hS hS2
  go_enter Tryz.func26, Tryz.ntmps26
  go_wp2
  go_ret
  exact ⟨⟨A2, c2, rfl, H4.out, H5.out⟩, rfl⟩
theorem run_cutH {A : Option Addr} {n c m : Nat} {h : Int} (hh : h = (m : Nat)) (hk : m ≤ c) (W : World) :
    (Instr.slice 54 (.slice A n c) none (some (.int .i64 h)) none).run Tryz.prog W = .ok (.slice A m c) W := by
  have ee : Tryz.prog.elem 54 = 61 := by kernel_rfl
  have hs : (sizeOf 61).run Tryz.prog W = .ok 1 W := by kernel_rfl
  subst hh
  rw [run_slice_h W 54 A n c (by rw [ee]; exact Tryz.underlying54) .i64 (m : Int) (by omega) (by omega), ee, hs]
  simp only [Result.andThen, sliced, Nat.mul_one, Int.toNat_natCast, Nat.sub_zero]
  have : A.map (·.add 0) = A := by cases A <;> simp [Addr.add]
  rw [this]
  split <;> rfl
theorem run_cutHAt {A : Option Addr} {n c m : Nat} {h : Int} (hh : h = (m : Nat)) (hk : m ≤ c) (W : World) :
    (Instr.sliceAt 54 (.slice A n c) none (some (.int .i64 h)) none).run Tryz.prog W = .ok (.slice A m c) W := by
  have ee : Tryz.prog.elem 54 = 61 := by kernel_rfl
  rw [run_sliceAt_slice W 54 _ _ _ _ (by rw [ee]; exact Tryz.underlying54)]
  exact run_cutH hh hk W
theorem xor_one (p : Nat) : p ^^^ 1 = sib p := by
  have h1 : (p ^^^ 1) / 2 = p / 2 := by
    have := Nat.shiftRight_xor_distrib (a := p) (b := 1) (i := 1)
    simpa [Nat.shiftRight_succ] using this
  have h2 : (p ^^^ 1) % 2 = (p + 1) % 2 := by
    have h := Nat.testBit_xor p 1 0
    simp only [Nat.testBit_zero] at h
    by_cases h1 : p % 2 = 1 <;> by_cases h2 : (p ^^^ 1) % 2 = 1 <;> simp [h1, h2] at h <;> omega
  unfold sib
  split <;> omega
theorem sib_lt {p n : Nat} (h : p < 2 ^ (n + 1)) : sib p < 2 ^ (n + 1) := by
  rw [Nat.pow_succ] at h ⊢
  unfold sib
  split <;> omega
theorem u32_xor_one (p : Nat) (h : p < 4294967296) : bits .xor .u32 (p : Int) 1 = (sib p : Int) := by
  have := u32_xor_nat p 1 h (by omega)
  rw [xor_one] at this
  exact this
/-- The rows of a way, as elements. -/
abbrev wayE (sec sd : List UInt8) (ly tr q : Nat) : El := rowE fun g => sumT sec sd ly tr g (sib (q / 2 ^ g))
set_option maxHeartbeats 2000000 in
theorem way_any (sec sd : List UInt8) (ly tr h q : Nat) (hq : q < 2 ^ h) (hh : h ≤ 20) (A : Option Addr) (c : Nat) (S : Nat → Prop) (w : World) (ht : Sl (treeE sec sd ly tr h) w S A (h + 1) c) :
    Calls Tryz.prog 29 #[.slice A (h + 1) c, .int .u32 (q : Int)] w fun e w' => ∃ A' c' vs, e = .returned (.slice A' h c') ∧ w'.ownsRow w.heap.size 24 1 (.slice A' h c') h vs ∧ (∀ j, j < h → ∃ u, vs[j]? = some u ∧ wayE sec sd ly tr q w' S j u) ∧ Below w.heap.size w w' := by
  have hcap := ht.cap
  have hmax := ht.max
  have hm2 := hmax
  unfold maxLen at hm2
  obtain ⟨n, hn⟩ : ∃ n, n = h + 1 := ⟨_, rfl⟩
  have C1 : ∀ W, (Instr.slice 54 (.slice A n c) none (some (.int .i64 (h : Int))) none).run Tryz.prog W = .ok (.slice A h c) W := fun W => run_cutH (m := h) rfl (by omega) W
  have C2 : ∀ W, (Instr.sliceAt 54 (.slice A n c) none (some (.int .i64 (h : Int))) none).run Tryz.prog W = .ok (.slice A h c) W := fun W => run_cutHAt (m := h) rfl (by omega) W
  have HT := Lib.hid ht
  have HQ := Lib.hid hq
  have t1 : (n : Int) - 1 = (h : Int) := by omega
  obtain ⟨i0, hi, hz0, hz1, hz2⟩ := info_parts Tryz.infoRows
  have HI := Lib.hid hi
  rw [← hn]
  have hq2 : q < 4294967296 := Nat.lt_of_lt_of_le hq (Nat.le_trans (Nat.pow_le_pow_right (by omega) hh) (by decide))
  clear ht hn hq hcap hmax hi
  go_enter Tryz.func29, Tryz.ntmps29
  go_wp2
  go_loopw [5, 14] (fun out i wr => ∃ (j : Nat) (vs : List Value), j ≤ h ∧ i = .int .i64 (j : Int) ∧ wr.ownsRow w.heap.size 24 1 out j vs ∧ (∀ k, k < j → ∃ u, vs[k]? = some u ∧ wayE sec sd ly tr q w S k u) ∧ Below w.heap.size w wr)
    (fun _ i _ => h - (intOf i).toNat)
  case atStart => exact ⟨0, [], Nat.zero_le _, rfl, World.ownsRow_nil _ _ _ _, fun k hk => absurd hk (by omega), Below.refl _ _⟩
  case round =>
    obtain ⟨j, vs, hj, rfl, hown, hel, hbel⟩ := hrel
    obtain ⟨Av, cv, rfl⟩ := own_form hown
    by_cases hlt : j < h
    · obtain ⟨b, off, A1, c1, rfl, hb, hS, h1, h2⟩ := tree_get HT.out (g := j) (by omega)
      have hi1 : sib (q / 2 ^ j) < 2 ^ (h - j) := by
        obtain ⟨m, hm⟩ : ∃ m, h - j = m + 1 := ⟨h - j - 1, by omega⟩
        rw [hm]
        refine sib_lt ?_
        rw [← hm]
        refine (Nat.div_lt_iff_lt_mul (Nat.two_pow_pos j)).2 ?_
        rw [← Nat.pow_add, show h - j + j = h by omega]
        exact HQ.out
      obtain ⟨b2, off2, A2, c2, rfl, hb2, hS2, h3, h4, h5⟩ := row_get h2 hi1
      obtain ⟨p, hp⟩ : ∃ p : Nat, p = q / 2 ^ j := ⟨_, rfl⟩
      have hp2 : p ≤ q := by rw [hp]; exact Nat.div_le_self _ _
      have hx := u32_xor_one p (by omega)
      rw [← hp] at h3 h4 hi1
      obtain ⟨s, hs⟩ : ∃ s, s = sib p := ⟨_, rfl⟩
      rw [← hs] at h3 h4 hi1 hx
      obtain ⟨m, hm⟩ : ∃ m, m = 2 ^ (h - j) := ⟨_, rfl⟩
      rw [← hm] at h1 hi1
      have k1 : wr.cell? ⟨b, off + j, none⟩ = some (.slice (some ⟨b2, off2, none⟩) m c1) := (hbel.cell (p := ⟨b, off + j, none⟩) hb).trans h1
      have k2 : wr.cell? ⟨b2, off2 + s, none⟩ = some (.slice A2 32 c2) := (hbel.cell (p := ⟨b2, off2 + s, none⟩) hb2).trans h3
      have t0 : (j : Int) < (h : Int) := by omega
      have t2 : (s : Int) < (m : Int) := by omega
      have HEL := Lib.hid (show wayE sec sd ly tr q w S j (.slice A2 32 c2) from ⟨A2, 32, c2, rfl, by show Rd w A2 32 c2 (sumT sec sd ly tr j (sib (q / 2 ^ j))); rw [← hp, ← hs]; exact h4, fun a _ ha => h5 a ha⟩)
      have e3 : (q : Int) / 2 ^ j = (p : Int) := by rw [hp]; simp
      have HO := Lib.hid hown
      have HE := Lib.hid hel
      have HB := Lib.hid hbel
      have hvl : vs.length = j := by have := hown.1; omega
      have HVL := Lib.hid hvl
      have HBS := Lib.hid hbel.size
      clear hown hel hbel h1 h2 h3 h4 h5 hS hS2 hb hb2 hs hm hp hp2 hvl
      go_wp2_with (at_builtin; refine wpList_append_own_at _ rfl (.tmp 19) (.tmp 27) 61 rfl w.heap.size 24 i0 _ 1 24 Tryz.underlying61 HI.out hz0 hz1 hz2 rfl (by omega) (.slice Av j cv) j vs rfl (HO.out.alloc _) ⟨wr.heap.size, 0, none⟩ 1 1 [.slice A2 32 c2] rfl rfl (cell_one_new _ _ _) (by simp [Value.oneCell']) (by simp only [maxLen]; omega) (by omega) (by have := HBS.out; simp; omega) ?_; intro v2 w2 o2 g2 _ _; have O2 := Lib.hid o2; have B2 := Lib.hid ((HB.out.alloc HBS.out (.cells #[.slice A2 32 c2] 24)).grown g2 (by have := HBS.out; simp; omega) (fun g hg => (HO.out.lt g hg).1)); clear o2 g2)
      go_roundw
      case rel =>
        refine ⟨j + 1, vs ++ [.slice A2 32 c2], by omega, by go_num, O2.out, fun k hk => ?_, B2.out⟩
        rcases Nat.lt_or_ge k j with h1 | h1
        · obtain ⟨u, h2, h3⟩ := HE.out k h1
          exact ⟨u, by rw [List.getElem?_append_left (by have := HVL.out; omega)]; exact h2, h3⟩
        · obtain rfl : k = j := by omega
          exact ⟨_, by rw [List.getElem?_append_right (by have := HVL.out; omega), HVL.out]; simp, HEL.out⟩
      case measure => simp [intOf]; omega
    · obtain rfl : j = h := by omega
      have t0 : ¬ (j : Int) < (j : Int) := by omega
      go_wp2
      go_ret
      exact ⟨Av, cv, rfl, vs, hown, fun k hk => by
        obtain ⟨u, h1, h2⟩ := hel k hk
        exact ⟨u, h1, (rowE_fp _).keep h2 hbel.size fun b _ hlt => hbel.block b hlt⟩, hbel⟩
end Go.Proofs.YtncinobgcfkmnaaGreatDoor.S16

/-
  The landed package wplus: what hands over the secret of each chain, and a signature's part of each. No statement is proved here. (Written by genwk7.py.)
-/
namespace Go.Proofs.YtncinobgcfkmnaaGreatDoor.S15
set_option linter.unusedSimpArgs false
set_option linter.unusedVariables false
set_option maxRecDepth 1024
open Go.RowKit Go.Shelf
attribute [local go_sem] Oper.semAt_some

theorem chains_any (f : FuncId) (b : Nat) (w : World) :
    Calls Tryz.prog 81 #[.func (.func f) #[] #[.pointer (some ⟨b, 0, none⟩)]] w fun e w' => e = .returned (.func (.func 104) #[] #[.pointer (some ⟨w.heap.size, 0, none⟩)]) ∧ w' = w.alloc (.cells #[.func (.func f) #[] #[.pointer (some ⟨b, 0, none⟩)]] 104) := by
  have hmf : ∀ (fn : Fn) (first cap : Array Value) (w : World), (Instr.makeFunc fn first cap).run Tryz.prog w = .ok (.func fn first cap) w := fun _ _ _ _ => rfl
  go_enter Tryz.func81, Tryz.ntmps81
  go_wp2
  go_ret
  exact ⟨rfl, rfl⟩
/-- What the function value hands over. -/
abbrev encR (k : Nat) (x : Option Addr × Nat) : Array Value := #[.int .i64 (k : Int), .slice x.1 32 x.2]
set_option maxHeartbeats 1000000 in
theorem chains_secrets (m : Nat) (hm : 1 ≤ m) (bc bk : Nat) (U : Nat → List UInt8) (pr : Option Addr → Prop) (ofok : World → Prop)
    (hof : ∀ (X : World) (k : Nat), ofok X → k < 67 → Calls Tryz.prog 82 #[.int .i64 (k : Int), .pointer (some ⟨bk, 0, none⟩)] X fun e X' => ∃ A c, e = .returned (.slice A 32 c) ∧ (Rd X' A 32 c (U k) ∧ pr A) ∧ Below X.heap.size X X') :
    RD.ItW Tryz.prog m 104 #[.pointer (some ⟨bc, 0, none⟩)] encR (fun k x X => Rd X x.1 32 x.2 (U k) ∧ pr x.1) 67 (fun X => Boxed X bc 104 (.func (.func 82) #[] #[.pointer (some ⟨bk, 0, none⟩)]) ∧ ofok X) := by
  intro l J W hJb hJo hY h0
  have HOF := Lib.hid hof
  have HJB := Lib.hid hJb
  have HJO := Lib.hid hJo
  have HY := Lib.hid hY
  clear hof hJb hJo hY
  refine callsIn_of_wp (args := #[.func (.yield l) #[] #[], .pointer (some ⟨bc, 0, none⟩)]) Tryz.func104 rfl trivial ?_ rfl
  simp only [Tryz.ntmps104, List.size_toArray, List.length_cons, List.length_nil, Nat.reduceAdd, Nat.reduceSub, Array.replicate_succ, Array.replicate_zero, List.push_toArray, List.append_toArray, List.nil_append, List.cons_append]
  gi_wp2_with (fail)
  gi_loopw [4] (fun i wr => ∃ j : Nat, j ≤ 67 ∧ i = .int .i64 (j : Int) ∧ J j wr) (fun i _ => 67 - (intOf i).toNat)
  case atStart => exact ⟨0, Nat.zero_le _, rfl, h0⟩
  case round =>
    obtain ⟨j, hj, rfl, hJ⟩ := hrel
    by_cases hlt : j < 67
    · have t0 : (j : Int) < 67 := by omega
      obtain ⟨hbx, hok⟩ := HJO.out _ _ hJ
      have hcell := hbx.cell
      have HC := Lib.hid (HOF.out wr j hok hlt)
      have HJ := Lib.hid hJ
      clear hbx hok hJ h0
      gi_wp2_with (first
        | (refine ⟨trivial, ?_⟩; gi_at_call 82; refine (callsIn_wide.2 HC.out).mono ?_; rintro e w1 ⟨A, c, rfl, r1, b1⟩; obtain ⟨fn, tmps, assign, body, hy, hR⟩ := HY.out j (A, c) w1 (HJB.out _ _ _ HJ.out b1) hlt r1; clear r1 b1)
        | (refine hR.mono ?_; rintro e w2 ⟨rfl, hJ2⟩; have HJ2 := Lib.hid hJ2; clear hJ2)
        | (refine ⟨trivial, ?_⟩; refine hR.mono ?_; rintro e w2 ⟨rfl, hJ2⟩; have HJ2 := Lib.hid hJ2; clear hJ2)
        | (refine ⟨trivial, fun h => (by simp [Fence.wide] at h), ?_⟩; refine hR.mono ?_; rintro e w2 ⟨rfl, hJ2⟩; have HJ2 := Lib.hid hJ2; clear hJ2))
      go_roundw
      case rel => exact ⟨j + 1, by omega, by go_num, HJ2.out⟩
      case measure => simp [intOf]; omega
    · obtain rfl : j = 67 := by omega
      have HJ := Lib.hid hJ
      clear hJ h0
      gi_wp2
      go_end0
      exact ⟨⟨_, rfl⟩, HJ.out⟩
set_option maxHeartbeats 1000000 in
theorem chains_parts (m : Nat) (hm : 1 ≤ m) (bc bk : Nat) (U : Nat → List UInt8) (pr : Option Addr → Prop) (ofok : World → Prop)
    (hof : ∀ (X : World) (k : Nat), ofok X → k < 67 → Calls Tryz.prog 90 #[.int .i64 (k : Int), .pointer (some ⟨bk, 0, none⟩)] X fun e X' => ∃ A c, e = .returned (.slice A 32 c) ∧ (Rd X' A 32 c (U k) ∧ pr A) ∧ Below X.heap.size X X') :
    RD.ItW Tryz.prog m 104 #[.pointer (some ⟨bc, 0, none⟩)] encR (fun k x X => Rd X x.1 32 x.2 (U k) ∧ pr x.1) 67 (fun X => Boxed X bc 104 (.func (.func 90) #[] #[.pointer (some ⟨bk, 0, none⟩)]) ∧ ofok X) := by
  intro l J W hJb hJo hY h0
  have HOF := Lib.hid hof
  have HJB := Lib.hid hJb
  have HJO := Lib.hid hJo
  have HY := Lib.hid hY
  clear hof hJb hJo hY
  refine callsIn_of_wp (args := #[.func (.yield l) #[] #[], .pointer (some ⟨bc, 0, none⟩)]) Tryz.func104 rfl trivial ?_ rfl
  simp only [Tryz.ntmps104, List.size_toArray, List.length_cons, List.length_nil, Nat.reduceAdd, Nat.reduceSub, Array.replicate_succ, Array.replicate_zero, List.push_toArray, List.append_toArray, List.nil_append, List.cons_append]
  gi_wp2_with (fail)
  gi_loopw [4] (fun i wr => ∃ j : Nat, j ≤ 67 ∧ i = .int .i64 (j : Int) ∧ J j wr) (fun i _ => 67 - (intOf i).toNat)
  case atStart => exact ⟨0, Nat.zero_le _, rfl, h0⟩
  case round =>
    obtain ⟨j, hj, rfl, hJ⟩ := hrel
    by_cases hlt : j < 67
    · have t0 : (j : Int) < 67 := by omega
      obtain ⟨hbx, hok⟩ := HJO.out _ _ hJ
      have hcell := hbx.cell
      have HC := Lib.hid (HOF.out wr j hok hlt)
      have HJ := Lib.hid hJ
      clear hbx hok hJ h0
      gi_wp2_with (first
        | (refine ⟨trivial, ?_⟩; gi_at_call 90; refine (callsIn_wide.2 HC.out).mono ?_; rintro e w1 ⟨A, c, rfl, r1, b1⟩; obtain ⟨fn, tmps, assign, body, hy, hR⟩ := HY.out j (A, c) w1 (HJB.out _ _ _ HJ.out b1) hlt r1; clear r1 b1)
        | (refine hR.mono ?_; rintro e w2 ⟨rfl, hJ2⟩; have HJ2 := Lib.hid hJ2; clear hJ2)
        | (refine ⟨trivial, ?_⟩; refine hR.mono ?_; rintro e w2 ⟨rfl, hJ2⟩; have HJ2 := Lib.hid hJ2; clear hJ2)
        | (refine ⟨trivial, fun h => (by simp [Fence.wide] at h), ?_⟩; refine hR.mono ?_; rintro e w2 ⟨rfl, hJ2⟩; have HJ2 := Lib.hid hJ2; clear hJ2))
      go_roundw
      case rel => exact ⟨j + 1, by omega, by go_num, HJ2.out⟩
      case measure => simp [intOf]; omega
    · obtain rfl : j = 67 := by omega
      have HJ := Lib.hid hJ
      clear hJ h0
      gi_wp2
      go_end0
      exact ⟨⟨_, rfl⟩, HJ.out⟩
end Go.Proofs.YtncinobgcfkmnaaGreatDoor.S15
