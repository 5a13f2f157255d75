/-
  Texts put together: Sk2, Ds8, Ds9. No statement is proved here.
-/
import Derived.Test.YtnoflgkjdibblaaGreatDoorWa23
import Derived.Test.YtnoflgkjdibblaaGreatDoorWa19
import Derived.Test.YtnoflgkjdibblaaGreatDoorWa24
import Derived.Test.YtnoflgkjdibblaaGreatDoorWa26
import Derived.Deep.RegionHeld3
import Derived.Laws.CopyRow

/-
  What the landed slots' small calls do: Room, areaLen, other, sector, blank; Done and Must. No statement is proved here.
-/
namespace Go.Proofs.YtnoflgkjdibblaaGreatDoor.S20
set_option linter.unusedSimpArgs false
set_option linter.unusedVariables false
set_option maxRecDepth 4096
open Go.RowKit S19

theorem area_any (n : Nat) (h : n ≤ 1000) (w : World) : Calls Tryz.prog 79 #[.int .i64 (n : Int)] w fun e w' => e = .returned (.int .i64 ((64 * n : Nat) : Int)) ∧ w = w' := by
  have e1 : wrap64 ((n : Int) * 64) = ((64 * n : Nat) : Int) := by rw [show ((n : Int) * 64) = ((64 * n : Nat) : Int) by omega]; exact (wrap_nat _ (by omega)).1
  go_enter Tryz.func79, Tryz.ntmps79
  go_wp2_with (fail)
  go_ret
  refine ⟨?_, rfl⟩
  show Ending.returned (Value.int .i64 ((n : Int) * 64)) = _
  rw [show ((n : Int) * 64) = ((64 * n : Nat) : Int) by omega]
theorem other_any (n : Nat) (h : n ≤ 1) (w : World) : Calls Tryz.prog 61 #[.int .i64 (n : Int)] w fun e w' => e = .returned (.int .i64 ((1 - n : Nat) : Int)) ∧ w = w' := by
  have e1 : wrap64 (1 - (n : Int)) = ((1 - n : Nat) : Int) := by rw [show (1 - (n : Int)) = ((1 - n : Nat) : Int) by omega]; exact (wrap_nat _ (by omega)).1
  go_enter Tryz.func61, Tryz.ntmps61
  go_wp2_with (fail)
  go_ret
  refine ⟨?_, rfl⟩
  show Ending.returned (Value.int .i64 (1 - (n : Int))) = _
  rw [show (1 - (n : Int)) = ((1 - n : Nat) : Int) by omega]
theorem room_any (n : Int) (w : World) : Calls Tryz.prog 56 #[.int .i64 n] w fun e w' => e = .returned (.int .i64 (room n : Int)) ∧ w = w' := by
  unfold room
  by_cases q1 : n < 1
  · rw [if_neg (by omega)]
    go_enter Tryz.func56, Tryz.ntmps56
    go_wp2_with (fail)
    go_ret
    exact ⟨rfl, rfl⟩
  · by_cases q2 : 8 < n
    · rw [if_neg (by omega)]
      go_enter Tryz.func56, Tryz.ntmps56
      go_wp2_with (fail)
      go_ret
      exact ⟨rfl, rfl⟩
    · rw [if_pos (by omega)]
      obtain ⟨m, rfl⟩ := Int.eq_ofNat_of_zero_le (show 0 ≤ n by omega)
      obtain ⟨k, hk⟩ : ∃ k, k = 64 * m := ⟨_, rfl⟩
      have AR := Lib.hid (show ∀ X, Calls Tryz.prog 79 #[.int .i64 (m : Int)] X fun e w' => e = .returned (.int .i64 (k : Int)) ∧ X = w' from fun X => by rw [hk]; exact area_any m (by omega) X)
      have e1 : (k : Int) - 28 = ((64 * m - 28 : Nat) : Int) := by omega
      have e2 : wrap64 ((k : Int) - 28) = ((64 * m - 28 : Nat) : Int) := by rw [e1]; exact (wrap_nat _ (by omega)).1
      obtain ⟨r, hr⟩ : ∃ r, r = 64 * m - 28 := ⟨_, rfl⟩
      rw [Int.toNat_natCast]
      rw [← hr] at e1 e2 ⊢
      have e3 : wrap64 (r : Int) = (r : Int) := (wrap_nat _ (by omega)).1
      clear hr hk
      go_enter Tryz.func56, Tryz.ntmps56
      go_wp2_with (go_at_call 79; ((with_reducible refine (AR.out _).mono ?_); rintro e w1 ⟨rfl, rfl⟩))
      go_ret
      first
        | exact ⟨rfl, rfl⟩
        | exact ⟨by show Ending.returned (Value.int .i64 (wrap64 (r : Int))) = _; rw [e3], rfl⟩
theorem done_any (c : Nat) (w : World) : Calls Tryz.prog 59 #[.int .i64 (c : Int)] w fun e w' => e = stepE c ∧ w = w' := by
  have HY := Lib.hid (fun X => LV.need_yes (c : Int) X)
  have HN := Lib.hid (fun X => LV.need_no (c : Int) X)
  by_cases h : c = 0
  · subst h
    have HY0 := Lib.hid (fun X => LV.need_yes 0 X)
    show Calls Tryz.prog 59 #[.int .i64 0] w _
    go_enter Tryz.func59, Tryz.ntmps59
    go_wp2_with (go_at_call 30; ((with_reducible refine (HY0.out _).mono ?_); rintro e w1 ⟨rfl, rfl⟩))
    go_end0
    exact ⟨rfl, rfl⟩
  · have y1 : ((c : Int) == 0) = false := by simp; omega
    have e1 : stepE c = .panicked [LV.wrg (c : Int)] := by simp [stepE, h]
    rw [e1]
    clear h
    go_enter Tryz.func59, Tryz.ntmps59
    go_wp2_with (go_at_call 30; ((with_reducible refine (HN.out _).mono ?_); rintro e w1 ⟨rfl, rfl⟩))
    exact ⟨rfl, rfl, rfl⟩
theorem must_yes (v : Value) (w : World) : Calls Tryz.prog 80 #[v, .int .i64 0] w fun e w' => e = .returned v ∧ w = w' := by
  have HD := Lib.hid (show ∀ X, Calls Tryz.prog 59 #[.int .i64 0] X fun e w' => e = .returned (.tuple #[]) ∧ X = w' from fun X => done_any 0 X)
  go_enter Tryz.func80, Tryz.ntmps80
  go_wp2_with (go_at_call 59; ((with_reducible refine (HD.out _).mono ?_); rintro e w1 ⟨rfl, rfl⟩))
  go_ret
  exact ⟨rfl, rfl⟩
theorem must_no (v : Value) (c : Nat) (h : c ≠ 0) (w : World) : Calls Tryz.prog 80 #[v, .int .i64 (c : Int)] w fun e w' => e = .panicked [LV.wrg (c : Int)] ∧ w = w' := by
  have HD := Lib.hid (show ∀ X, Calls Tryz.prog 59 #[.int .i64 (c : Int)] X fun e w' => e = .panicked [LV.wrg (c : Int)] ∧ X = w' from fun X => (done_any c X).mono fun e w' ⟨h1, h2⟩ => ⟨by rw [h1]; simp [stepE, h], h2⟩)
  go_enter Tryz.func80, Tryz.ntmps80
  go_wp2_with (go_at_call 59; ((with_reducible refine (HD.out _).mono ?_); rintro e w1 ⟨rfl, rfl⟩))
  exact ⟨rfl, rfl, rfl⟩
theorem blank_any (A : Option Addr) (n c : Nat) (xs : List UInt8) (w : World) (h : Rd w A n c xs) (hn : n ≤ 65536) : Calls Tryz.prog 53 #[.slice A n c] w fun e w' => e = .returned (.bool (sameB xs (List.replicate n 0))) ∧ Below w.heap.size w w' := by
  have FI := Lib.hid (show ∀ X, Calls Tryz.prog 63 #[.int .u8 0, .int .i64 (n : Int)] X (New X.heap.size X (List.replicate n 0)) from fun X => fill_any 0 n X hn)
  have SA := Lib.hid (fun A' n' c' ys X h' h'' => same_any A A' n c n' c' xs ys X h' h'')
  have HR := Lib.hid h
  obtain ⟨zs, hz⟩ : ∃ zs, zs = List.replicate n (0 : UInt8) := ⟨_, rfl⟩
  rw [← hz] at FI ⊢
  obtain ⟨r, hr⟩ : ∃ r, r = sameB xs zs := ⟨_, rfl⟩
  have HRR := Lib.hid hr
  rw [← hr]
  clear hz h hr
  go_enter Tryz.func53, Tryz.ntmps53
  go_wp2_with (first
    | (go_at_call 63; ((with_reducible refine (FI.out _).mono ?_); rintro e w1 ⟨A1, n1, c1, rfl, o1, b1⟩; have R1 := Lib.hid (Rd.own o1); have B1 := Lib.hid b1; clear o1 b1))
    | (go_at_call 77; ((with_reducible refine (SA.out A1 n1 c1 zs w1 (HR.out.below B1.out) R1.out).mono ?_); rintro e w2 ⟨rfl, rfl⟩; rw [← HRR.out])))
  go_ret
  exact ⟨rfl, B1.out⟩
set_option maxHeartbeats 1000000 in
theorem sector_any (N : Nat) (w : World) (s g : Nat) (Z : Sl) (S : Nat → Prop) (t : Sz N w s g Z S) (f n a i : Nat) (hf : Z.first = f) (hzn : Z.n = n) (h1 : f + 2 * n ≤ 256) (ha : a < 2) (hi : i < n) (hn : n ≤ 8) :
    Calls Tryz.prog 82 #[.pointer (some ⟨s, 0, none⟩), .int .i64 (a : Int), .int .i64 (i : Int)] w fun e w' => e = .returned (.int .i64 ((f + a * n + i : Nat) : Int)) ∧ Below w.heap.size w w' := by
  have T := Lib.hid t
  have KJ := Lib.hid (show ∀ X, Below w.heap.size w X → X.cell? ⟨s, 1, none⟩ = some (.int .i64 (f : Int)) ∧ X.cell? ⟨s, 2, none⟩ = some (.int .i64 (n : Int)) from fun X hX => by
    have h := (t.grow hX).cells
    rw [← hf, ← hzn]
    exact ⟨h.2.1, h.2.2.1⟩)
  obtain ⟨c1, c2⟩ := KJ.out w (Below.refl _ _)
  obtain ⟨pn, fa, aj, x1, x2, x3, l1, l2, l3, hajv, hajl⟩ := add_nat f a n i h1 ha hi hn
  have s1 : IntKind.i64.wrap (pn : Int) = (pn : Int) := (wrap_nat pn l1).2
  have s2 : IntKind.i64.wrap (fa : Int) = (fa : Int) := (wrap_nat fa l2).2
  have s3 : IntKind.i64.wrap (aj : Int) = (aj : Int) := (wrap_nat aj l3).2
  have u1 : wrap64 (pn : Int) = (pn : Int) := (wrap_nat pn l1).1
  have u2 : wrap64 (fa : Int) = (fa : Int) := (wrap_nat fa l2).1
  have u3 : wrap64 (aj : Int) = (aj : Int) := (wrap_nat aj l3).1
  rw [← hajv]
  have BD := Lib.hid (Below.refl w.heap.size w).drew
  clear t hf hzn h1 ha hi hn hajv hajl l1 l2 l3
  go_enter Tryz.func82, Tryz.ntmps82
  go_upto_region 1 with (fail)
  clear c1 c2
  (go_region_held3 (fun X => X.cell? ⟨s, 1, none⟩ = some (.int .i64 (f : Int)) ∧ X.cell? ⟨s, 2, none⟩ = some (.int .i64 (n : Int))) (exact KJ.out _ BD.out) (fail))
  go_wp2_with (fail)
  go_ret
  exact ⟨rfl, BD.out⟩
end Go.Proofs.YtnoflgkjdibblaaGreatDoor.S20

/-
  What the landed Read does. No statement is proved here.
-/
namespace Go.Proofs.YtnoflgkjdibblaaGreatDoor.S19
set_option linter.unusedSimpArgs false
set_option linter.unusedVariables false
set_option maxRecDepth 8192
open Go.RowKit

/-- A sector reads as its bytes. -/
theorem rd_sector {w : World} {b : Nat} {T : TypeId} {s : List (List UInt8)} (hb : Bk w b T (rowsV s).toArray) (h : ∀ x ∈ s, x.length = 64) {m o : Nat} (hm : m < s.length) (ho : o = m * 64) : Rd w (some ⟨b, o, none⟩) 64 64 (s.getD m []) := by
  refine ⟨h _ (getD_mem hm), Nat.le_refl _, by simp [maxLen], fun e => by (cases e), fun _ => ⟨b, o, rfl, hb.lt, fun j hj => ?_⟩⟩
  rw [hb.cell, List.getElem?_toArray, ho, Nat.mul_comm m 64]
  exact rowsV_at h hm hj
theorem kn_now {N : Nat} {w : World} {g : Nat} {D : Dk} {F : Nat → Prop} {V : KnV} (ok : D.Ok) : (∀ b ∈ Dk.laid D.pend D.sure, b.length = 64) ∧ (Dk.laid D.pend D.sure).length = D.sure.length :=
  ⟨Dk.laid_rows _ _ (fun p hp => (ok.pend p hp).2) ok.rows, Dk.laid_len _ _⟩
set_option maxHeartbeats 4000000 in
theorem read_bel (N : Nat) (w : World) (g : Nat) (D : Dk) (F : Nat → Prop) (i : Int) (t : Kn N w g D F) : Calls Tryz.prog 81 #[.pointer (some ⟨g, 0, none⟩), .int .i64 i] w fun e w' =>
    ∃ A c, e = .returned (.tuple #[.slice A (D.readB i).length c, .int .i64 (D.readC i : Int)]) ∧ Rd w' A (D.readB i).length c (D.readB i) ∧ (∀ a, 0 < (D.readB i).length → A = some a → w.heap.size ≤ a.block) ∧ Below w.heap.size w w' := by
  have hmf : ∀ (fn : Fn) (first cap : Array Value) (w : World), (Instr.makeFunc fn first cap).run Tryz.prog w = .ok (.func fn first cap) w := fun _ _ _ _ => rfl
  have T := Lib.hid t
  obtain ⟨ok, V, hb, r⟩ := t
  have NW := Lib.hid (show N ≤ w.heap.size by have := r.gN g r.fg; omega)
  have OUT := Lib.hid (show ∀ (A : Option Addr) (c : Nat) (X : World) (n : Nat) (b : List UInt8) (cd : Nat), D.readB i = b → D.readC i = cd → Below w.heap.size w X → Rd X A n c b → (∀ a, 0 < n → A = some a → w.heap.size ≤ a.block) →
      ∃ A' c', Ending.returned (Value.tuple #[.slice A n c, .int .i64 (cd : Int)]) = .returned (.tuple #[.slice A' (D.readB i).length c', .int .i64 (D.readC i : Int)]) ∧ Rd X A' (D.readB i).length c' (D.readB i) ∧ (∀ a, 0 < (D.readB i).length → A' = some a → w.heap.size ≤ a.block) ∧ Below w.heap.size w X from by
    intro A c X n b cd e1 e2 hX hR hA
    rw [e1, e2, hR.len]
    exact ⟨A, c, rfl, hR, hA, hX⟩)
  cases hoff : D.off with
  | true =>
    rw [hoff] at hb
    have C1 := Lib.hid (fun X h => power_no g V D.sure.length D.cnt D.stop X h)
    have e1 : D.readC i = 6 := by simp [Dk.readC, hoff]
    have e2 : D.readB i = [] := by simp [Dk.readB, e1]
    have HB := Lib.hid hb
    clear r hb ok
    go_enter_defers Tryz.func81, Tryz.ntmps81
    go_wp2_with (go_at_call 89; ((with_reducible refine (C1.out _ (HB.out.alloc _)).mono ?_); rintro e w1 ⟨rfl, rfl⟩))
    refine dread_bad rfl (y := 0) (Bk.newAt _ _ _ w.heap.size rfl) rfl fun w1 hb => ?_
    exact OUT.out none 0 _ 0 [] 6 e2 e1 ((((Below.refl _ _).alloc (Nat.le_refl _) _).trans (hb.mono (by simp))).setCell (Nat.le_refl _) _) (Rd.nil_ _) (fun a h => absurd h (Nat.lt_irrefl 0))
  | false =>
    rw [hoff] at hb
    have C1 := Lib.hid (fun X h => power_ok g V D.sure.length D.cnt D.stop X h)
    by_cases hi : 0 ≤ i ∧ i < (D.sure.length : Int)
    · obtain ⟨m, rfl⟩ : ∃ m : Nat, i = (m : Int) := ⟨i.toNat, by omega⟩
      have hm : m < D.sure.length := by omega
      have C2 := Lib.hid (fun X h => sector_ok g V D.sure.length D.cnt D.stop false (m : Int) hi.1 hi.2 X h)
      have e1 : D.readC (m : Int) = 0 := by simp [Dk.readC, hoff, Dk.has, hi]
      have e2 : D.readB (m : Int) = D.atS m := by simp [Dk.readB, e1]
      obtain ⟨q1, q2⟩ := kn_now (N := N) (w := w) (g := g) (F := F) (V := V) ok
      have RS := Lib.hid (show ∀ X, Below w.heap.size w X → Rd X (some ⟨V.nb, m * 64, none⟩) 64 64 (D.atS m) from fun X hX => by
        have h := rd_sector r.now q1 (m := m) (by omega) rfl
        rw [Dk.laid_at D.pend D.sure hm] at h
        exact h.below hX)
      have CL := Lib.hid (fun A n c xs X h h2 => clone_bs A n c xs X h h2)
      obtain ⟨k, hk⟩ : ∃ k, k = D.sure.length := ⟨_, rfl⟩
      rw [← hk] at hb C1 C2 hm
      have hmi : (m : Int) < (k : Int) := by omega
      have HB := Lib.hid hb
      have G1 := Lib.hid (show Below w.heap.size w (w.alloc (.cells #[.int .i64 0] 29)) from (Below.refl _ _).alloc (Nat.le_refl _) _)
      have c1 : (w.alloc (.cells #[.int .i64 0] 29)).cell? ⟨g, 1, none⟩ = some (.slice (some ⟨V.nb, 0, none⟩) k k) := (hb.alloc _).cell 1
      clear r hb ok q1 q2 hk hi
      go_enter_defers Tryz.func81, Tryz.ntmps81
      go_wp2_with (first
        | (go_at_call 89; ((with_reducible refine (C1.out _ (HB.out.alloc _)).mono ?_); rintro e w1 ⟨rfl, rfl⟩))
        | (go_at_call 108; ((with_reducible refine (C2.out _ (HB.out.alloc _)).mono ?_); rintro e w1 ⟨rfl, rfl⟩))
        | (go_at_call 48; ((with_reducible refine (CL.out _ _ _ _ _ (RS.out _ G1.out) (by decide)).mono ?_); rintro e w5 ⟨A5, c5, rfl, o5, b5⟩; have O5 := Lib.hid o5; have B5 := Lib.hid b5; have K5 := Lib.hid ((Bk.newAt w 29 #[.int .i64 0] w.heap.size rfl).below b5 (by simp)); have k5 := cell_of_one K5.out; have f5 := free_of_one K5.out; clear o5 b5)))
      refine dread_ret rfl (y := 0) (K5.out.put 0 _) rfl ?_
      have G5 := Lib.hid (G1.out.trans (B5.out.mono G1.out.size))
      have RD := Lib.hid (Rd.own (own_keepH (w' := (w5.setCell ⟨w.heap.size, 0, none⟩ (.int .i64 0)).setCell ⟨w.heap.size, 0, none⟩ (.int .i64 0)) O5.out (fun b hb _ => by
        have h3 := (O5.out.lt b hb).1
        have h4 : (w.alloc (.cells #[.int .i64 0] 29)).heap.size = w.heap.size + 1 := by simp
        have hne : b ≠ w.heap.size := by omega
        exact (Below.heap_setCell _ ⟨w.heap.size, 0, none⟩ _ b hne).trans (Below.heap_setCell _ ⟨w.heap.size, 0, none⟩ _ b hne))))
      exact OUT.out A5 c5 _ 64 (D.atS m) 0 e2 e1 ((G5.out.setCell (Nat.le_refl _) _).setCell (Nat.le_refl _) _) RD.out (fun a h1 h2 => by
        have h3 := (O5.out.lt a.block (by rw [h2]; rfl)).1
        have h4 : (w.alloc (.cells #[.int .i64 0] 29)).heap.size = w.heap.size + 1 := by simp
        omega)
    · have C2 := Lib.hid (fun X h => sector_no g V D.sure.length D.cnt D.stop false i hi X h)
      have e1 : D.readC i = 1 := by simp [Dk.readC, hoff, Dk.has, hi]
      have e2 : D.readB i = [] := by simp [Dk.readB, e1]
      have HB := Lib.hid hb
      clear r hb ok hi
      go_enter_defers Tryz.func81, Tryz.ntmps81
      go_wp2_with (first
        | (go_at_call 89; ((with_reducible refine (C1.out _ (HB.out.alloc _)).mono ?_); rintro e w1 ⟨rfl, rfl⟩))
        | (go_at_call 108; ((with_reducible refine (C2.out _ (HB.out.alloc _)).mono ?_); rintro e w1 ⟨rfl, rfl⟩)))
      refine dread_bad rfl (y := 0) (Bk.newAt _ _ _ w.heap.size rfl) rfl fun w1 hb => ?_
      exact OUT.out none 0 _ 0 [] 1 e2 e1 ((((Below.refl _ _).alloc (Nat.le_refl _) _).trans (hb.mono (by simp))).setCell (Nat.le_refl _) _) (Rd.nil_ _) (fun a h => absurd h (Nat.lt_irrefl 0))
theorem read_any (N : Nat) (w : World) (g : Nat) (D : Dk) (F : Nat → Prop) (i : Int) (t : Kn N w g D F) : Calls Tryz.prog 81 #[.pointer (some ⟨g, 0, none⟩), .int .i64 i] w fun e w' =>
    ∃ A c F', e = .returned (.tuple #[.slice A (D.readB i).length c, .int .i64 (D.readC i : Int)]) ∧ Rd w' A (D.readB i).length c (D.readB i) ∧ (∀ a, 0 < (D.readB i).length → A = some a → w.heap.size ≤ a.block ∧ ¬ F' a.block) ∧ Kn N w' g D F' ∧ (∀ b, F' b → F b ∨ w.heap.size ≤ b) ∧ Mv N F w w' := by
  have NW : N ≤ w.heap.size := by
    obtain ⟨ok, V, hb, r⟩ := t
    have := r.gN g r.fg
    omega
  refine (read_bel N w g D F i t).mono fun e w' ⟨A, c, h1, h2, h3, h4⟩ => ⟨A, c, F, h1, h2, fun a p q => ⟨h3 a p q, fun h => ?_⟩, t.below h4, fun b h => .inl h, Mv.of NW h4⟩
  have := h3 a p q
  have := (t.lt _ h).2
  omega
end Go.Proofs.YtnoflgkjdibblaaGreatDoor.S19

/-
  What the landed Flush does; copies of sectors. No statement is proved here.
-/
namespace Go.Proofs.YtnoflgkjdibblaaGreatDoor.S19
set_option linter.unusedSimpArgs false
set_option linter.unusedVariables false
set_option maxRecDepth 8192
open Go.RowKit

/-- 'copy' where an element is sz cells. -/
theorem run_copy_sz {P : Program} (sz : Nat) (w : World) (dT sT ty elem : TypeId) (g o dLen dCap : Nat) (a : Addr) (sLen sCap : Nat) (cur : Array Value) (t : TypeId) (cs : List Value)
    (hu : P.underlying dT = some (.slice elem)) (hs : (P.info? elem).map (·.size) = some sz)
    (hg : w.heap[g]? = some (.cells cur t (0, 0))) (hn : cs.length = Nat.min sLen dLen * sz)
    (hsrc : ∀ j v, cs[j]? = some v → w.cell? (a.add j) = some v) (hfit : o + cs.length ≤ cur.size) (h1 : ∀ v ∈ cs, v.oneCell' = true) :
    (Builtin.copy_ #[dT, sT] ty #[.slice (some ⟨g, o, none⟩) dLen dCap, .slice (some a) sLen sCap]).run P w =
      .ok (goInt (Nat.min sLen dLen)) (w.setRow g (cur.toList.take o ++ cs ++ cur.toList.drop (o + cs.length)).toArray) := by
  have hl := run_loadCells_list (P := P) w a cs hsrc
  have hst := run_storeCells_at P g o t cs 0 cur w hg (by simpa using hfit) h1
  cases hq : P.info? elem with
  | none => simp [hq] at hs
  | some i =>
    have hi : i.size = sz := by simpa [hq] using hs
    simp [Builtin.copy_, run_underlying hu, Builtin.lenOf, Builtin.firstCells, sizeOf, typeInfo, hq, hi, ← hn, hl, hst]
theorem Tryz.sizeSec : (Tryz.prog.info? 105).map (·.size) = some 64 := by kernel_rfl
/-- All sectors are copied. -/
theorem copy_all (w : World) (ty : TypeId) (d s k : Nat) (T T' : TypeId) (xs ys : List (List UInt8)) (hd : Bk w d T (rowsV xs).toArray) (hs : Bk w s T' (rowsV ys).toArray) (hx : ∀ b ∈ xs, b.length = 64) (hy : ∀ b ∈ ys, b.length = 64) (lx : xs.length = k) (ly : ys.length = k) :
    (Builtin.copy_ #[76, 76] ty #[.slice (some ⟨d, 0, none⟩) k k, .slice (some ⟨s, 0, none⟩) k k]).run Tryz.prog w = .ok (goInt k) (w.setRow d (rowsV ys).toArray) := by
  have l1 := rowsV_len hx
  have l2 := rowsV_len hy
  have h := run_copy_sz (P := Tryz.prog) 64 w 76 76 ty 105 d 0 k k ⟨s, 0, none⟩ k k (rowsV xs).toArray T (rowsV ys) Tryz.underlying76 Tryz.sizeSec hd (by rw [l2, ly]; simp; omega) (fun j v hj => by
    have e : (⟨s, 0, none⟩ : Addr).add j = ⟨s, 0 + j, none⟩ := by unfold Addr.add; split <;> simp_all
    rw [e, Nat.zero_add, hs.cell, List.getElem?_toArray]
    exact hj) (by simp; rw [l1, l2, lx, ly]; omega) (rowsV_one ys)
  rw [h]
  have e : Nat.min k k = k := Nat.min_self k
  rw [e]
  congr 2
  simp
  rw [l1, l2, lx, ly]
  simp
/-- The sectors that are sure are written over by those that were written last. -/
theorem In.flushed {N : Nat} {w : World} {g : Nat} {sure now : List (List UInt8)} {pend : List (Nat × List UInt8)} {fails : List Int} {F : Nat → Prop} {V : KnV} (r : In N w g sure now pend fails F V) :
    In N (w.setRow V.sb (rowsV now).toArray) g now now [] fails F { V with vP := .slice none 0 0 } := by
  have hs : (w.setRow V.sb (rowsV now).toArray).heap.size = w.heap.size := by simp [World.setRow]
  have hk : ∀ b, b ≠ V.sb → (w.setRow V.sb (rowsV now).toArray).heap[b]? = w.heap[b]? := fun b hb => setRow_other w V.sb b _ hb
  refine ⟨r.sure.row _, (hk _ r.d3.symm).trans r.now, ⟨rfl, .inl ⟨rfl, rfl⟩⟩, r.fl.keep (by omega) fun a h1 h2 _ => hk _ (r.dF a h1 h2).2.1, r.few, r.mem, r.srt, r.fg, r.fs, r.fnn, fun b h => absurd h (by simp [Value.ownBlock]), r.ff, fun b hb => by rw [hs]; exact r.gN b hb, r.d1, r.d2, r.d3, fun b h => absurd h (by simp [Value.ownBlock]), fun a h1 h2 => ⟨(r.dF a h1 h2).1, (r.dF a h1 h2).2.1, (r.dF a h1 h2).2.2.1, by simp [Value.ownBlock]⟩⟩
theorem Mv.row {N : Nat} {F : Nat → Prop} {w : World} {b : Nat} (hF : F b) (hN : N ≤ b) (cs : Array Value) : Mv N F w (w.setRow b cs) :=
  ⟨⟨rfl, rfl, rfl, by simp [World.setRow], fun k hk => setRow_other w b k _ (by omega)⟩, fun k _ h => setRow_other w b k _ fun e => h (by rw [e]; exact hF)⟩
theorem set_set (w : World) (b o : Nat) (v v' : Value) : (w.setCell ⟨b, o, none⟩ v).setCell ⟨b, o, none⟩ v' = w.setCell ⟨b, o, none⟩ v' := by
  rw [Sort.setCell_eq, Sort.setCell_eq, Sort.mapBlock_mapBlock, Sort.setCell_eq]
  congr 1
  funext c
  simp
/-- What a call comes to that has written its code at its end. -/
theorem post_fin {N : Nat} {w w4 w5 : World} {g : Nat} {D' : Dk} {F F' : Nat → Prop} {o : Obj} {v u : Value} (NW : N ≤ w.heap.size) (t4 : Kn N w4 g D' F') (hF : ∀ b, F' b → F b ∨ w.heap.size < b) (m4 : Mv N F (w.alloc o) w4) (NF : ¬ F w.heap.size) (hb : Below w4.heap.size w4 w5) :
    Post Kn N F g w D' v (.returned v) (w5.setCell ⟨w.heap.size, 0, none⟩ u) := by
  have NF' : ¬ F' w.heap.size := fun h => (hF _ h).elim NF (Nat.lt_irrefl _)
  have h4 : w.heap.size + 1 ≤ w4.heap.size := by have := m4.size; simpa using this
  refine ⟨rfl, F', (t4.below hb).keep (by simp) fun b hF _ => Below.heap_setCell _ ⟨w.heap.size, 0, none⟩ _ b fun e => NF' (by rw [e] at hF; exact hF), fun b h => (hF b h).imp id Nat.le_of_lt, ?_⟩
  have m0 : Mv N F w (w.alloc o) := Mv.of NW ((Below.refl _ _).alloc (Nat.le_refl _) _)
  have m5 : Mv N F w4 w5 := Mv.of (by omega) hb
  have m6 : Mv N (fun b => b = w.heap.size) w5 (w5.setCell ⟨w.heap.size, 0, none⟩ u) := ⟨(Below.refl _ _).setCell (show N ≤ (⟨w.heap.size, 0, none⟩ : Addr).block from NW) _, fun b _ h => Below.heap_setCell _ ⟨w.heap.size, 0, none⟩ _ b h⟩
  exact ((m0.trans m4 fun b h => .inl h).trans m5 fun b h => .inl h).trans m6 fun b h => .inr (by rw [h]; exact Nat.le_refl _)
set_option maxHeartbeats 4000000 in
theorem flush_any (N : Nat) (w : World) (g : Nat) (D : Dk) (F : Nat → Prop) (t : Kn N w g D F) (hc : D.cnt < 1099511627776) : Calls Tryz.prog 60 #[.pointer (some ⟨g, 0, none⟩)] w (Post Kn N F g w D.flush (.int .i64 (D.stepC : Int))) := by
  have hmf : ∀ (fn : Fn) (first cap : Array Value) (w : World), (Instr.makeFunc fn first cap).run Tryz.prog w = .ok (.func fn first cap) w := fun _ _ _ _ => rfl
  have T := Lib.hid t
  have NW := Lib.hid (show N ≤ w.heap.size by obtain ⟨ok, V, hb, r⟩ := t; have := r.gN g r.fg; omega)
  have NF := Lib.hid (show ¬ F w.heap.size from fun h => Nat.lt_irrefl _ (t.lt _ h).2)
  have K1 := Lib.hid (Bk.newAt w 29 #[.int .i64 0] w.heap.size rfl)
  have G1 := Lib.hid (show Below w.heap.size w (w.alloc (.cells #[.int .i64 0] 29)) from (Below.refl _ _).alloc (Nat.le_refl _) _)
  cases hoff : D.off with
  | true =>
    obtain ⟨ok, V, hb, r⟩ := t
    rw [hoff] at hb
    have C1 := Lib.hid (fun X h => power_no g V D.sure.length D.cnt D.stop X h)
    have e1 : D.stepC = 6 := by simp [Dk.stepC, hoff]
    have e2 : D.flush = D := by simp [Dk.flush, hoff]
    have HB := Lib.hid hb
    rw [e1, e2]
    clear r hb ok
    go_enter_defers Tryz.func60, Tryz.ntmps60
    go_wp2_with (go_at_call 89; ((with_reducible refine (C1.out _ (HB.out.alloc _)).mono ?_); rintro e w1 ⟨rfl, rfl⟩))
    refine dflush_bad (y := 0) K1.out rfl fun w1 hb => ?_
    have G := ((G1.out).trans (hb.mono G1.out.size)).setCell (p := ⟨w.heap.size, 0, none⟩) (Nat.le_refl _) (.int .i64 6)
    exact ⟨rfl, F, T.out.below G, fun b h => .inl h, Mv.of NW.out G⟩
  | false =>
    have C2 := Lib.hid (fun X h => step_any N X g D F h hoff hc)
    obtain ⟨ok, V, hb, r⟩ := t
    rw [hoff] at hb
    have C1 := Lib.hid (fun X h => power_ok g V D.sure.length D.cnt D.stop X h)
    have HB := Lib.hid hb
    clear r hb ok
    have e0 : D.flush = if D.stepC = 0 then { D.step with sure := Dk.laid D.pend D.sure, pend := [] } else D.step := by simp [Dk.flush, hoff]
    by_cases h0 : D.stepC = 0
    · rw [if_pos h0] at e0
      have e1 : stepE D.stepC = .returned (.tuple #[]) := by simp [stepE, h0]
      rw [e1] at C2
      have OKF := Lib.hid (show ({ D.step with sure := Dk.laid D.pend D.sure, pend := [] } : Dk).Ok by rw [← e0]; exact Dk.flush_ok T.out.ok)
      rw [h0, e0]
      clear e0 e1 h0
      go_enter_defers Tryz.func60, Tryz.ntmps60
      go_upto_region 4 with (first
        | (go_at_call 89; ((with_reducible refine (C1.out _ (HB.out.alloc _)).mono ?_); rintro e w1 ⟨rfl, rfl⟩))
        | (go_at_call 90; ((with_reducible refine (C2.out _ (T.out.below G1.out)).mono ?_); rintro e w4 ⟨rfl, t4, m4⟩; have T4 := Lib.hid t4; have M4 := Lib.hid m4; clear t4 m4)))
      obtain ⟨ok4, V4, hb4, r4⟩ := T4.out
      have ls : (Dk.laid D.pend D.sure).length = D.sure.length := Dk.laid_len _ _
      obtain ⟨q1, q2⟩ := kn_now (N := N) (w := w) (g := g) (F := F) (V := V4) ok4
      rw [Dk.step_pend, Dk.step_sure] at q1 q2 r4
      have hrows : ∀ b ∈ D.sure, b.length = 64 := by have := ok4.rows; rw [Dk.step_sure] at this; exact this
      obtain ⟨k, hk⟩ : ∃ k, k = D.step.sure.length := ⟨_, rfl⟩
      rw [← hk] at hb4
      have hk2 : D.sure.length = k := by rw [hk, Dk.step_sure]
      obtain ⟨Z, hZ⟩ : ∃ Z, Z = (rowsV (Dk.laid D.pend D.sure)).toArray := ⟨_, rfl⟩
      have hcp : (Builtin.copy_ #[76, 76] 3 #[.slice (some ⟨V4.sb, 0, none⟩) k k, .slice (some ⟨V4.nb, 0, none⟩) k k]).run Tryz.prog w4.drew = .ok (goInt k) (w4.drew.setRow V4.sb Z) := by
        rw [hZ]
        exact copy_all w4.drew 3 V4.sb V4.nb k _ _ _ _ r4.sure.drew r4.now.drew hrows q1 hk2 (by omega)
      have HB4 := Lib.hid hb4
      have R4 := Lib.hid r4
      have HZ := Lib.hid hZ
      have OK4 := Lib.hid ok4
      have HK := Lib.hid hk
      clear hb4 r4 hZ ok4 hk hk2 hrows q1 q2 ls
      (go_region_held3 (fun X => X.cell? ⟨g, 0, none⟩ = some (.slice (some ⟨V4.sb, 0, none⟩) k k) ∧ X.cell? ⟨g, 1, none⟩ = some (.slice (some ⟨V4.nb, 0, none⟩) k k)) (first
        | exact ⟨HB4.out.drew.cell 0, HB4.out.drew.cell 1⟩
        | exact ⟨(HB4.out.drew.rowFar R4.out.d1 Z).cell 0, (HB4.out.drew.rowFar R4.out.d1 Z).cell 1⟩) (fail))
      have HB5 := Lib.hid (HB4.out.drew.rowFar R4.out.d1 Z)
      have R5 := Lib.hid (show In N (w4.drew.setRow V4.sb Z) g (Dk.laid D.pend D.sure) (Dk.laid D.pend D.sure) [] D.step.fails F { V4 with vP := .slice none 0 0 } by rw [HZ.out]; exact R4.out.drew.flushed)
      have M5 := Lib.hid (show Mv N F (w.alloc (.cells #[.int .i64 0] 29)) (w4.drew.setRow V4.sb Z) from (M4.out.trans (Mv.of (F := F) (by have := (R4.out.gN g R4.out.fg); omega) (Below.refl _ _).drew) fun b h => .inl h).trans (Mv.row R4.out.fs (R4.out.gN _ R4.out.fs).1 Z) fun b h => .inl h)
      have K5 := Lib.hid (M5.out.bk K1.out NF.out)
      generalize w4.drew.setRow V4.sb Z = w5 at *
      have b2 : w5.cell? ⟨g, 2, none⟩ = some V4.vP := HB5.out.cell 2
      have z2 := HB5.out.frozen 2
      have k5 := cell_of_one K5.out
      have z5 := free_of_one K5.out
      have b5 : w.heap.size ≠ g := fun e => NF.out (by rw [e]; exact R4.out.fg)
      clear hcp T4 M4 HB4 HZ hc hoff C1 C2 HB
      go_upto_region 6 with (fail)
      obtain ⟨w6, hw6⟩ : ∃ w6, w6 = w5.setCell ⟨g, 2, none⟩ (.slice none 0 0) := ⟨_, rfl⟩
      have T6 := Lib.hid (show Kn N w6 g { D.step with sure := Dk.laid D.pend D.sure, pend := [] } F by
        refine ⟨OKF.out, { V4 with vP := .slice none 0 0 }, ?_, ?_⟩
        · show Bk w6 g _ (knA _ (Dk.laid D.pend D.sure).length _ _ _)
          rw [Dk.laid_len, ← Dk.step_sure, ← HK.out, hw6]
          exact HB5.out.put 2 _
        · rw [hw6]
          exact R5.out.poke 2 _)
      have M6 := Lib.hid (show Mv N F (w.alloc (.cells #[.int .i64 0] 29)) w6 by rw [hw6]; exact M5.out.trans (Mv.pokeK R5.out.fg (R5.out.gN g R5.out.fg).1 2 _) fun b h => .inl h)
      have K6 := Lib.hid (M6.out.bk K1.out NF.out)
      rw [← hw6]
      clear hw6 b2 z2 k5 z5 HB5 R5 M5 K5
      have k6 := cell_of_one K6.out
      have z6 := free_of_one K6.out
      go_wp2_with (fail)
      refine dflush_ret (y := 0) (K6.out.put 0 _) rfl ?_
      have hX : (w6.setCell ⟨w.heap.size, 0, none⟩ (.int .i64 0)).setCell ⟨w.heap.size, 0, none⟩ (.int .i64 0) = w6.setCell ⟨w.heap.size, 0, none⟩ (.int .i64 0) := set_set _ _ _ _ _
      rw [hX]
      exact post_fin NW.out T6.out (fun b h => .inl h) M6.out NF.out (Below.refl _ _)
    · rw [if_neg h0] at e0
      obtain ⟨cd, hcd⟩ : ∃ cd, cd = D.stepC := ⟨_, rfl⟩
      have e1 : stepE D.stepC = .panicked [LV.wrg (cd : Int)] := by rw [hcd]; simp [stepE, h0]
      rw [e1] at C2
      rw [e0, ← hcd]
      clear e0 e1 h0 hcd
      go_enter_defers Tryz.func60, Tryz.ntmps60
      go_wp2_with (first
        | (go_at_call 89; ((with_reducible refine (C1.out _ (HB.out.alloc _)).mono ?_); rintro e w1 ⟨rfl, rfl⟩))
        | (go_at_call 90; ((with_reducible refine (C2.out _ (T.out.below G1.out)).mono ?_); rintro e w4 ⟨rfl, t4, m4⟩)))
      refine dflush_bad (y := 0) (m4.bk K1.out NF.out) rfl fun w1 hb => ?_
      exact post_fin NW.out t4 (fun b h => .inl h) m4 NF.out hb
end Go.Proofs.YtnoflgkjdibblaaGreatDoor.S19
