/-
  What the landed Read does. No statement is proved here.
-/
import Derived.Test.YtammgingmkdfhaaDs6
import Derived.Test.YtammgingmkdfhaaDs5
namespace Go.Proofs.Ytammgingmkdfhaa.S19
set_option linter.unusedSimpArgs false
set_option linter.unusedVariables false
set_option maxRecDepth 8192
open Go.RowKit

/-- A sector reads as its bytes. -/
theorem rd_sector {w : World} {b : Nat} {T : TypeId} {s : List (List UInt8)} (hb : Bk w b T (rowsV s).toArray) (h : ∀ x ∈ s, x.length = 64) {m o : Nat} (hm : m < s.length) (ho : o = m * 64) : Rd w (some ⟨b, o, none⟩) 64 64 (s.getD m []) := by
  refine ⟨h _ (getD_mem hm), Nat.le_refl _, by simp [maxLen], fun e => by (cases e), fun _ => ⟨b, o, rfl, hb.lt, fun j hj => ?_⟩⟩
  rw [hb.cell, List.getElem?_toArray, ho, Nat.mul_comm m 64]
  exact rowsV_at h hm hj
theorem kn_now {N : Nat} {w : World} {g : Nat} {D : Dk} {F : Nat → Prop} {V : KnV} (ok : D.Ok) : (∀ b ∈ Dk.laid D.pend D.sure, b.length = 64) ∧ (Dk.laid D.pend D.sure).length = D.sure.length :=
  ⟨Dk.laid_rows _ _ (fun p hp => (ok.pend p hp).2) ok.rows, Dk.laid_len _ _⟩
set_option maxHeartbeats 4000000 in
theorem read_any (N : Nat) (w : World) (g : Nat) (D : Dk) (F : Nat → Prop) (i : Int) (t : Kn N w g D F) : Calls Try.prog 22 #[.pointer (some ⟨g, 0, none⟩), .int .i64 i] w fun e w' =>
    ∃ A c F', e = .returned (.tuple #[.slice A (D.readB i).length c, .int .i64 (D.readC i : Int)]) ∧ Rd w' A (D.readB i).length c (D.readB i) ∧ (∀ a, 0 < (D.readB i).length → A = some a → w.heap.size ≤ a.block ∧ ¬ F' a.block) ∧ Kn N w' g D F' ∧ (∀ b, F' b → F b ∨ w.heap.size ≤ b) ∧ Mv N F w w' := by
  have hmf : ∀ (fn : Fn) (first cap : Array Value) (w : World), (Instr.makeFunc fn first cap).run Try.prog w = .ok (.func fn first cap) w := fun _ _ _ _ => rfl
  have T := Lib.hid t
  obtain ⟨ok, V, hb, r⟩ := t
  have NW := Lib.hid (show N ≤ w.heap.size by have := r.gN g r.fg; omega)
  have OUT := Lib.hid (show ∀ (A : Option Addr) (c : Nat) (X : World) (n : Nat) (b : List UInt8) (cd : Nat), D.readB i = b → D.readC i = cd → Below w.heap.size w X → Rd X A n c b → (∀ a, 0 < n → A = some a → w.heap.size ≤ a.block) →
      ∃ A' c' F', Ending.returned (Value.tuple #[.slice A n c, .int .i64 (cd : Int)]) = .returned (.tuple #[.slice A' (D.readB i).length c', .int .i64 (D.readC i : Int)]) ∧ Rd X A' (D.readB i).length c' (D.readB i) ∧ (∀ a, 0 < (D.readB i).length → A' = some a → w.heap.size ≤ a.block ∧ ¬ F' a.block) ∧ Kn N X g D F' ∧ (∀ b, F' b → F b ∨ w.heap.size ≤ b) ∧ Mv N F w X from by
    intro A c X n b cd e1 e2 hX hR hA
    rw [e1, e2, hR.len]
    refine ⟨A, c, F, rfl, hR, fun a h1 h2 => ⟨hA a h1 h2, fun h => ?_⟩, T.out.below hX, fun b h => .inl h, Mv.of NW.out hX⟩
    have := hA a h1 h2
    have := (T.out.lt _ h).2
    omega)
  cases hoff : D.off with
  | true =>
    rw [hoff] at hb
    have C1 := Lib.hid (fun X h => power_no g V D.sure.length D.cnt D.stop X h)
    have e1 : D.readC i = 6 := by simp [Dk.readC, hoff]
    have e2 : D.readB i = [] := by simp [Dk.readB, e1]
    have HB := Lib.hid hb
    clear r hb ok
    go_enter_defers Try.func22, Try.ntmps22
    go_wp2_with (go_at_call 32; ((with_reducible refine (C1.out _ (HB.out.alloc _)).mono ?_); rintro e w1 ⟨rfl, rfl⟩))
    refine dread_bad rfl (y := 0) (Bk.newAt _ _ _ w.heap.size rfl) rfl fun w1 hb => ?_
    exact OUT.out none 0 _ 0 [] 6 e2 e1 ((((Below.refl _ _).alloc (Nat.le_refl _) _).trans (hb.mono (by simp))).setCell (Nat.le_refl _) _) (Rd.nil_ _) (fun a h => absurd h (Nat.lt_irrefl 0))
  | false =>
    rw [hoff] at hb
    have C1 := Lib.hid (fun X h => power_ok g V D.sure.length D.cnt D.stop X h)
    by_cases hi : 0 ≤ i ∧ i < (D.sure.length : Int)
    · obtain ⟨m, rfl⟩ : ∃ m : Nat, i = (m : Int) := ⟨i.toNat, by omega⟩
      have hm : m < D.sure.length := by omega
      have C2 := Lib.hid (fun X h => sector_ok g V D.sure.length D.cnt D.stop false (m : Int) hi.1 hi.2 X h)
      have e1 : D.readC (m : Int) = 0 := by simp [Dk.readC, hoff, Dk.has, hi]
      have e2 : D.readB (m : Int) = D.atS m := by simp [Dk.readB, e1]
      obtain ⟨q1, q2⟩ := kn_now (N := N) (w := w) (g := g) (F := F) (V := V) ok
      have RS := Lib.hid (show ∀ X, Below w.heap.size w X → Rd X (some ⟨V.nb, m * 64, none⟩) 64 64 (D.atS m) from fun X hX => by
        have h := rd_sector r.now q1 (m := m) (by omega) rfl
        rw [Dk.laid_at D.pend D.sure hm] at h
        exact h.below hX)
      have CL := Lib.hid (fun A n c xs X h h2 => clone_bs A n c xs X h h2)
      obtain ⟨k, hk⟩ : ∃ k, k = D.sure.length := ⟨_, rfl⟩
      rw [← hk] at hb C1 C2 hm
      have hmi : (m : Int) < (k : Int) := by omega
      have HB := Lib.hid hb
      have G1 := Lib.hid (show Below w.heap.size w (w.alloc (.cells #[.int .i64 0] 25)) from (Below.refl _ _).alloc (Nat.le_refl _) _)
      have c1 : (w.alloc (.cells #[.int .i64 0] 25)).cell? ⟨g, 1, none⟩ = some (.slice (some ⟨V.nb, 0, none⟩) k k) := (hb.alloc _).cell 1
      clear r hb ok q1 q2 hk hi
      go_enter_defers Try.func22, Try.ntmps22
      go_wp2_with (first
        | (go_at_call 32; ((with_reducible refine (C1.out _ (HB.out.alloc _)).mono ?_); rintro e w1 ⟨rfl, rfl⟩))
        | (go_at_call 33; ((with_reducible refine (C2.out _ (HB.out.alloc _)).mono ?_); rintro e w1 ⟨rfl, rfl⟩))
        | (go_at_call 30; ((with_reducible refine (CL.out _ _ _ _ _ (RS.out _ G1.out) (by decide)).mono ?_); rintro e w5 ⟨A5, c5, rfl, o5, b5⟩; have O5 := Lib.hid o5; have B5 := Lib.hid b5; have K5 := Lib.hid ((Bk.newAt w 25 #[.int .i64 0] w.heap.size rfl).below b5 (by simp)); have k5 := cell_of_one K5.out; have f5 := free_of_one K5.out; clear o5 b5)))
      refine dread_ret rfl (y := 0) (K5.out.put 0 _) rfl ?_
      have G5 := Lib.hid (G1.out.trans (B5.out.mono G1.out.size))
      have RD := Lib.hid (Rd.own (own_keepH (w' := (w5.setCell ⟨w.heap.size, 0, none⟩ (.int .i64 0)).setCell ⟨w.heap.size, 0, none⟩ (.int .i64 0)) O5.out (fun b hb _ => by
        have h3 := (O5.out.lt b hb).1
        have h4 : (w.alloc (.cells #[.int .i64 0] 25)).heap.size = w.heap.size + 1 := by simp
        have hne : b ≠ w.heap.size := by omega
        exact (Below.heap_setCell _ ⟨w.heap.size, 0, none⟩ _ b hne).trans (Below.heap_setCell _ ⟨w.heap.size, 0, none⟩ _ b hne))))
      exact OUT.out A5 c5 _ 64 (D.atS m) 0 e2 e1 ((G5.out.setCell (Nat.le_refl _) _).setCell (Nat.le_refl _) _) RD.out (fun a h1 h2 => by
        have h3 := (O5.out.lt a.block (by rw [h2]; rfl)).1
        have h4 : (w.alloc (.cells #[.int .i64 0] 25)).heap.size = w.heap.size + 1 := by simp
        omega)
    · have C2 := Lib.hid (fun X h => sector_no g V D.sure.length D.cnt D.stop false i hi X h)
      have e1 : D.readC i = 1 := by simp [Dk.readC, hoff, Dk.has, hi]
      have e2 : D.readB i = [] := by simp [Dk.readB, e1]
      have HB := Lib.hid hb
      clear r hb ok hi
      go_enter_defers Try.func22, Try.ntmps22
      go_wp2_with (first
        | (go_at_call 32; ((with_reducible refine (C1.out _ (HB.out.alloc _)).mono ?_); rintro e w1 ⟨rfl, rfl⟩))
        | (go_at_call 33; ((with_reducible refine (C2.out _ (HB.out.alloc _)).mono ?_); rintro e w1 ⟨rfl, rfl⟩)))
      refine dread_bad rfl (y := 0) (Bk.newAt _ _ _ w.heap.size rfl) rfl fun w1 hb => ?_
      exact OUT.out none 0 _ 0 [] 1 e2 e1 ((((Below.refl _ _).alloc (Nat.le_refl _) _).trans (hb.mono (by simp))).setCell (Nat.le_refl _) _) (Rd.nil_ _) (fun a h => absurd h (Nat.lt_irrefl 0))
end Go.Proofs.Ytammgingmkdfhaa.S19
