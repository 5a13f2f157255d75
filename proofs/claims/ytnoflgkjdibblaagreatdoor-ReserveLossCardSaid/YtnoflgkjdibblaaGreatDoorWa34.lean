/-
  Texts put together: SkH. No statement is proved here.
-/
import Derived.Test.YtnoflgkjdibblaaGreatDoorWa32
import Derived.Test.YtnoflgkjdibblaaGreatDoorWa33
import Derived.Deep.Cut
import Derived.Deep.CutRange

/-
  What the landed slots' Save does. No statement is proved here. (Written by gensk_h.py.)
-/
namespace Go.Proofs.YtnoflgkjdibblaaGreatDoor.S20
set_option linter.unusedSimpArgs false
set_option linter.unusedVariables false
set_option maxRecDepth 8192
open Go.RowKit S19

/-- What a call of Save comes to. -/
def PostSv (N : Nat) (s g : Nat) (F S : Nat → Prop) (w : World) (D' : Dk) (Z' : Sl) (cd : Nat) (e : Ending) (w' : World) : Prop :=
  e = .returned (.int .i64 (cd : Int)) ∧ ∃ F' S', Kn N w' g D' F' ∧ Sz N w' s g Z' S' ∧ (∀ b, Or2 F' S' b → Or2 F S b ∨ w.heap.size ≤ b) ∧ (∀ b, F' b → ¬ S' b) ∧ Mv N (Or2 F S) w w'
theorem save_fin {N : Nat} {w w7 X : World} {s g g3 : Nat} {D' : Dk} {Z' : Sl} {F S F' S' : Nat → Prop} (hN : N ≤ w.heap.size) (hg3 : w.heap.size = g3) (k7 : Kn N w7 g D' F') (s7 : Sz N w7 s g Z' S') (m7 : Mv N (Or2 F S) w w7) (hF : ∀ b, F' b → F b ∨ g3 < b) (hS : ∀ b, S' b → S b ∨ g3 < b) (hFl : ∀ b, F b → b < g3) (hSl : ∀ b, S b → b < g3) (hd : ∀ b, F' b → ¬ S' b) (hX : Below w7.heap.size w7 X) (u : Value) (cd : Nat) :
    PostSv N s g F S w D' Z' cd (.returned (.int .i64 (cd : Int))) (X.setCell ⟨g3, 0, none⟩ u) := by
  have nS : ¬ S' g3 := fun h => (hS _ h).elim (fun h => by have := hSl _ h; omega) (by omega)
  have nF : ¬ F' g3 := fun h => (hF _ h).elim (fun h => by have := hFl _ h; omega) (by omega)
  have hsz := m7.size
  refine ⟨rfl, F', S', ?_, ?_, ?_, hd, ?_⟩
  · exact (k7.below hX).keep (by simp) fun b hb _ => Below.heap_setCell _ ⟨g3, 0, none⟩ _ b fun e => nF (by rw [e] at hb; exact hb)
  · exact (s7.grow hX).keep (by simp) fun b hb _ => Below.heap_setCell _ ⟨g3, 0, none⟩ _ b fun e => nS (by rw [e] at hb; exact hb)
  · rintro b (h | h)
    · exact (hF b h).elim (fun h => .inl (.inl h)) (fun h => .inr (by omega))
    · exact (hS b h).elim (fun h => .inl (.inr h)) (fun h => .inr (by omega))
  · have m8 : Mv N (Or2 F S) w7 X := Mv.of (by omega) hX
    have m9 : Mv N (fun b => b = g3) X (X.setCell ⟨g3, 0, none⟩ u) := ⟨(Below.refl _ _).setCell (show N ≤ (⟨g3, 0, none⟩ : Addr).block from by show N ≤ g3; omega) _, fun b _ h => Below.heap_setCell _ ⟨g3, 0, none⟩ _ b h⟩
    exact (m7.trans m8 fun b h => .inl h).trans m9 fun b h => .inr (by omega)
theorem save_new (Z : Sl) (D : Dk) (b : List UInt8) (h : Z.saveC D b = 0) : (Z.save D b).first = Z.first ∧ (Z.save D b).n = Z.n ∧ (Z.save D b).num = Z.next ∧ (Z.save D b).b = b ∧ (Z.save D b).goes = 1 - Z.goes := by
  have e : Z.save D b = { Z with at_ := (Z.goes : Int), num := Z.next, b := b } := by rw [Sl.save, if_pos h]
  rw [e]
  refine ⟨rfl, rfl, rfl, rfl, ?_⟩
  show (if ((Z.goes : Nat) : Int) = 0 then 1 else 0) = 1 - Z.goes
  unfold Sl.goes
  split <;> simp
theorem sk_writes_cnt (at_ : Nat) (xs : List UInt8) : ∀ (k j : Nat) (D : Dk), (Sl.writes at_ xs k j D).2.cnt ≤ D.cnt + k
  | 0, j, D => Nat.le_refl _
  | k + 1, j, D => by
    unfold Sl.writes
    have hw := Dk.write_cnt D ((at_ + j : Nat) : Int) (Sl.row xs j)
    split
    · have := sk_writes_cnt at_ xs k (j + 1) (D.write ((at_ + j : Nat) : Int) (Sl.row xs j))
      omega
    · show (D.write _ _).cnt ≤ _
      omega
/-- What a way through a region leaves by, where the deferred call looks at one slot alone. -/
def PanicOr (R : List PanicEntry → World → Prop) (d : List Deferred) (t : Tmp) (v : Value) (Q : Exit → Act → World → Prop) : Exit → Act → World → Prop
  | .panic c, a, w => a.defers = d ∧ a.tmps.getD t undef = v ∧ R c w
  | e, a, w => Q e a w
theorem po_imp {R : List PanicEntry → World → Prop} {d : List Deferred} {t : Tmp} {v : Value} {Q : Exit → Act → World → Prop} (h : ∀ c a w, a.defers = d → a.tmps.getD t undef = v → R c w → Q (.panic c) a w) : ∀ (e : Exit) (a : Act) (w : World), PanicOr R d t v Q e a w → Q e a w := fun e a w k => by
  cases e <;> first | exact k | exact h _ _ _ k.1 k.2.1 k.2.2
theorem po_keep {R : List PanicEntry → World → Prop} {d : List Deferred} {t : Tmp} {v u : Value} {Q : Exit → Act → World → Prop} {c : List PanicEntry} {a : Act} {q : Option Tmp} {w : World} (hq : q ≠ some t) (h : PanicOr R d t v Q (.panic c) (a.put q u) w) : PanicOr R d t v Q (.panic c) a w := by
  obtain ⟨h1, h2, h3⟩ := h
  cases q with
  | none => exact ⟨h1, h2, h3⟩
  | some q =>
    refine ⟨h1, ?_, h3⟩
    have hne : q ≠ t := fun e => hq (by rw [e])
    simpa [Act.put, Array.getD_eq_getD_getElem?, Array.getElem?_setIfInBounds_ne hne] using h2
theorem goes_lt (Z : Sl) : Z.goes < 2 := by unfold Sl.goes; split <;> omega
set_option maxHeartbeats 16000000 in
theorem save_any (N : Nat) (w : World) (s g : Nat) (D : Dk) (Z : Sl) (F S : Nat → Prop) (A : Option Addr) (n c : Nat) (b : List UInt8) (hgk : S2.GOk w) (tk : Kn N w g D F) (ts : Sz N w s g Z S) (hFS : ∀ b, F b → ¬ S b) (zo : Z.Ok D) (hr : Rd w A n c b) (hap : ∀ a, 0 < n → A = some a → ¬ Or2 F S a.block) (hc : D.cnt < 1099511627000) :
    Calls Tryz.prog 35 #[.pointer (some ⟨s, 0, none⟩), .slice A n c] w (PostSv N s g F S w (Z.saveD D b) (Z.save D b) (Z.saveC D b)) := by
  have hmf : ∀ (fn : Fn) (first cap : Array Value) (w : World), (Instr.makeFunc fn first cap).run Tryz.prog w = .ok (.func fn first cap) w := fun _ _ _ _ => rfl
  have hn8 := zo.most
  have hn1 := zo.one
  have hbl := hr.len
  have hrm := room_nat hn1 hn8
  obtain ⟨rm, hrm2⟩ : ∃ rm, rm = room Z.n := ⟨_, rfl⟩
  obtain ⟨zn, hzn⟩ : ∃ zn, zn = Z.n := ⟨_, rfl⟩
  have RM := Lib.hid (show ∀ X, Calls Tryz.prog 56 #[.int .i64 (zn : Int)] X fun e w' => e = .returned (.int .i64 (rm : Int)) ∧ X = w' from fun X => by rw [hrm2, hzn]; exact room_any Z.n X)
  obtain ⟨g3, hg3⟩ : ∃ g3, w.heap.size = g3 := ⟨_, rfl⟩
  obtain ⟨w0, hw0⟩ : ∃ w0, w.alloc (.cells #[.int .i64 0] 29) = w0 := ⟨_, rfl⟩
  have s0 : w0.heap.size = g3 + 1 := by rw [← hw0, ← hg3]; simp
  have B0 := Lib.hid (show Below w.heap.size w w0 by rw [← hw0]; exact (Below.refl _ _).alloc (Nat.le_refl _) _)
  have K3 := Lib.hid (show Bk w0 g3 29 #[.int .i64 0] by rw [← hw0]; exact Bk.newAt _ _ _ _ hg3)
  have HD := Lib.hid (show (∀ b, F b → ¬ S b) ∧ (∀ b, F b → b < g3) ∧ (∀ b, S b → b < g3) ∧ N ≤ w.heap.size ∧ w.heap.size = g3 ∧ w0.heap.size = g3 + 1 from ⟨hFS, fun b h => by have := (tk.lt b h).2; omega, fun b h => by have := (ts.lt b h).2; omega, by have := ts.sz; omega, hg3, s0⟩)
  have T0 := Lib.hid (tk.below B0.out)
  have S0 := Lib.hid (ts.grow B0.out)
  have M0 := Lib.hid (show Mv N (Or2 F S) w w0 from Mv.of HD.out.2.2.2.1 B0.out)
  have CS := Lib.hid (show ∀ (X : World), Sz N X s g Z S → X.cell? ⟨s, 0, none⟩ = some (.pointer (some ⟨g, 0, none⟩)) ∧ X.cell? ⟨s, 2, none⟩ = some (.int .i64 (zn : Int)) ∧ X.cell? ⟨s, 3, none⟩ = some (.int .u64 (Z.num : Int)) ∧ X.cell? ⟨s, 5, none⟩ = some (.int .i64 (Z.goes : Int)) from fun X hX => by
    rw [hzn]
    exact ⟨hX.cells.1, hX.cells.2.2.1, hX.cells.2.2.2.1, hX.cells.2.2.2.2⟩)
  obtain ⟨c0, c2, c3, c5⟩ := CS.out w0 S0.out
  by_cases q1 : rm < n
  · have e1 : Z.saveC D b = 1 := by rw [Sl.saveC, if_pos (by omega)]
    have e2 : Z.saveD D b = D := by rw [Sl.saveD, if_pos (by omega)]
    have e3 : Z.save D b = Z := by rw [Sl.save, e1, if_neg (by omega)]
    rw [e1, e2, e3]
    have HN := Lib.hid (fun X => LV.need_no 1 X)
    have y1 : decide ((n : Int) ≤ (rm : Int)) = false := decide_eq_false (by omega)
    have y2 : decide (n ≤ rm) = false := decide_eq_false (by omega)
    have FIN := Lib.hid (fun X hX => save_fin (u := .int .i64 1) (cd := 1) (X := X) HD.out.2.2.2.1 hg3 T0.out S0.out M0.out (fun b h => .inl h) (fun b h => .inl h) HD.out.2.1 HD.out.2.2.1 HD.out.1 hX)
    clear hn8 hn1 hbl hrm hrm2 hzn s0 tk ts hFS zo hr hap hc hgk e1 e2 e3 q1
    go_enter_defers Tryz.func35, Tryz.ntmps35
    go_wp2_with (first
      | (go_at_call 56; ((with_reducible refine (RM.out _).mono ?_); rintro e w1 ⟨rfl, rfl⟩))
      | (go_at_call 30; ((with_reducible refine (HN.out _).mono ?_); rintro e w1 ⟨rfl, rfl⟩)))
    refine ssave_bad (y := 0) K3.out rfl fun w9 hb => ?_
    exact FIN.out w9 hb
  · obtain ⟨nx, hnx⟩ : ∃ nx, nx = Z.next := ⟨_, rfl⟩
    obtain ⟨tt, htt⟩ : ∃ tt, tt = Z.goes := ⟨_, rfl⟩
    obtain ⟨xs, hxs⟩ : ∃ xs, xs = recB nx b Z.n := ⟨_, rfl⟩
    obtain ⟨cw, hcw⟩ : ∃ cw, cw = (Sl.writes (Z.first + tt * Z.n) xs Z.n 0 D).1 := ⟨_, rfl⟩
    obtain ⟨Dw, hDw⟩ : ∃ Dw, Dw = (Sl.writes (Z.first + tt * Z.n) xs Z.n 0 D).2 := ⟨_, rfl⟩
    have hnx2 : nx < 18446744073709551616 := by rw [hnx]; exact Nat.mod_lt _ (by omega)
    have htt2 : tt < 2 := by rw [htt]; exact goes_lt Z
    have hlx : xs.length = 64 * Z.n := by rw [hxs]; exact recB_len _ _ _ (by omega)
    have a1 : IntKind.u64.wrap ((Z.num : Int) + 1) = (nx : Int) := by rw [IntKind.wrap_u64, hnx, Sl.next]; omega
    have a2 : ((Z.num : Int) + 1) % 18446744073709551616 = (nx : Int) := by rw [hnx, Sl.next]; omega
    have HSC := Lib.hid (show Z.saveC D b = (if cw = 0 then Dw.stepC else cw) by rw [Sl.saveC, if_neg (by omega), Sl.written, ← htt, ← hnx, ← hxs, ← hcw, ← hDw])
    have HSD := Lib.hid (show Z.saveD D b = (if cw = 0 then Dw.flush else Dw) by rw [Sl.saveD, if_neg (by omega), Sl.written, ← htt, ← hnx, ← hxs, ← hcw, ← hDw])
    have HSV := Lib.hid (show ∀ x, Z.saveC D b = x → x ≠ 0 → Z.save D b = Z from fun x hx h0 => by rw [Sl.save, hx, if_neg h0])
    have HSN := Lib.hid (show Z.saveC D b = 0 → (Z.save D b).first = Z.first ∧ (Z.save D b).n = Z.n ∧ (Z.save D b).num = nx ∧ (Z.save D b).b = b ∧ (Z.save D b).goes = 1 - tt from fun h => by rw [hnx, htt]; exact save_new Z D b h)
    have HNB := Lib.hid (show n ≤ 1000000 ∧ b.length = n ∧ n ≤ room Z.n from ⟨by omega, hbl, by omega⟩)
    have LAY := Lib.hid (show ∀ X A c, Below w.heap.size w X → Rd X A n c b → Calls Tryz.prog 58 #[.agg #[.int .u64 (nx : Int), .slice A n c], .int .i64 (zn : Int)] X fun e w' => ∃ A' c', e = .returned (.slice A' (64 * zn) c') ∧ Rd w' A' (64 * zn) c' xs ∧ (∀ a, A' = some a → X.heap.size ≤ a.block) ∧ Below X.heap.size X w' from fun X A c hX h => by
      have h9 := lay_any nx hnx2 A n c b Z.n X (hgk.below (Nat.le_refl _) hX) h (by omega) (by omega)
      rw [hzn]
      refine h9.mono fun e w' ⟨A', n', c', h1, h2, h3⟩ => ?_
      have hl := own_len h2
      rw [← hxs] at h2 hl
      obtain rfl : n' = 64 * Z.n := by omega
      exact ⟨A', c', h1, Rd.own h2, fun a ha => (h2.lt a.block (by rw [ha]; rfl)).1, h3⟩)
    have WRT := Lib.hid (show ∀ X A c, Below w0.heap.size w0 X → Rd X A (64 * zn) c xs → (∀ a, A = some a → w0.heap.size ≤ a.block) → Calls Tryz.prog 57 #[.pointer (some ⟨s, 0, none⟩), .int .i64 (tt : Int), .slice A (64 * zn) c] X fun e w' => e = stepE cw ∧ ∃ F', Kn N w' g Dw F' ∧ (∀ b, F' b → F b ∨ X.heap.size ≤ b) ∧ Mv N F X w' from fun X A c hX h hA => by
      rw [hcw, hDw]
      exact write_area N X s g D Z F S (T0.out.below hX) (S0.out.grow hX) HD.out.1 zo tt htt2 A (64 * zn) c xs h (by rw [hzn]) (fun a _ ha hF => by have := hA a ha; have := HD.out.2.1 _ hF; have := HD.out.2.2.2.2.2; omega) hc)
    have DC_ := Lib.hid (show Dw.cnt < 1099511627776 from by
      have h := sk_writes_cnt (Z.first + tt * Z.n) xs Z.n 0 D
      rw [← hDw] at h
      omega)
    have HR := Lib.hid hr
    have HAP := Lib.hid (show ∀ a, 0 < n → A = some a → a.block < g3 from fun a h1 h2 => by
      obtain ⟨bb, off, e, hb, _⟩ := hr.at_ h1
      rw [h2] at e
      injection e with e
      subst e
      rw [← hg3]
      exact hb)
    have y1 : decide ((n : Int) ≤ (rm : Int)) = true := decide_eq_true (by omega)
    have y2 : decide (n ≤ rm) = true := decide_eq_true (by omega)
    have HY := Lib.hid (fun X => LV.need_yes 1 X)
    have DN := Lib.hid (fun k X => done_any k X)
    have HO := Lib.hid (show ∀ X, Calls Tryz.prog 61 #[.int .i64 (tt : Int)] X fun e w' => e = .returned (.int .i64 ((1 - tt : Nat) : Int)) ∧ X = w' from fun X => other_any tt (by omega) X)
    have CT := Lib.hid (show ∀ (X : World), Sz N X s g Z S → X.cell? ⟨s, 5, none⟩ = some (.int .i64 (tt : Int)) from fun X hX => by rw [htt]; exact (CS.out X hX).2.2.2)
    have GD := Lib.hid (Below.refl w0.heap.size w0).drew
    have KX := Lib.hid (show ∀ X, Below w0.heap.size w0 X → X.cell? ⟨s, 3, none⟩ = some (.int .u64 (Z.num : Int)) from fun X hX => (CS.out X (S0.out.grow hX)).2.2.1)
    have CAT := Lib.hid (show ∀ (X : World) (gb : Nat), RdBs X (some ⟨gb, 0, none⟩) 1 1 [b] → Calls Tryz.prog 32 #[.slice (some ⟨gb, 0, none⟩) 1 1] X fun e w' => ∃ A1 c1, e = .returned (.slice A1 n c1) ∧ Rd w' A1 n c1 b ∧ (∀ a, A1 = some a → X.heap.size ≤ a.block) ∧ Below X.heap.size X w' from fun X gb hX => (cat_any _ 1 1 [b] X hX (by simp; omega)).mono fun e w' ⟨A', n', c', h1, h2, h3⟩ => by
      have e9 : [b].flatten = b := by simp
      rw [e9] at h2
      have hl := own_len h2
      obtain rfl : n' = n := by omega
      exact ⟨A', c', h1, Rd.own h2, fun a ha => (h2.lt a.block (by rw [ha]; rfl)).1, h3⟩)
    clear hn8 hn1 hbl hrm hrm2 hzn s0 tk ts hFS zo hr hap hc hgk q1 hnx htt hxs hcw hDw hnx2 htt2 hlx c0 c5
    go_enter_defers Tryz.func35, Tryz.ntmps35
    go_upto_region 3 with (first
      | (go_at_call 56; ((with_reducible refine (RM.out _).mono ?_); rintro e w1 ⟨rfl, rfl⟩))
      | (go_at_call 30; ((with_reducible refine (HY.out _).mono ?_); rintro e w1 ⟨rfl, rfl⟩)))
    clear hw0 hg3 c2 c3
    go_cut [5] from 16 (fun s5 wx => ∃ gr A1 c1, s5 = .pointer (some ⟨gr, 0, none⟩) ∧ Bk wx gr 81 #[.int .u64 (nx : Int), .slice A1 n c1] ∧ Rd wx A1 n c1 b ∧ (∀ a, 0 < n → A1 = some a → w0.heap.size ≤ a.block) ∧ w0.heap.size ≤ gr ∧ Below w0.heap.size w0 wx)
    case first =>
      refine wp_region_noPanic ?_
      refine wp_region_held_drew (S := fun X => X.cell? ⟨s, 3, none⟩ = some (.int .u64 (Z.num : Int))) (by kernel_rfl) (KX.out _ GD.out) (fun sx => ?_)
      have SX := Lib.hid sx
      clear sx
      refine RD.h_take 0 (.pointer (some ⟨s, 0, none⟩)) rfl (by kernel_rfl) (by kernel_rfl) (by kernel_rfl) (fun _ _ _ h => h) (by rfl) SX.out (fun X hX => ?_) ?_
      · go_simp
      simp only [Act.put, List.setIfInBounds_toArray, List.set_cons_zero, List.set_cons_succ]
      refine RD.h_take 1 (.pointer (some ⟨s, 0, none⟩)) rfl (by kernel_rfl) (by kernel_rfl) (by kernel_rfl) (fun _ _ _ h => h) (by rfl) SX.out (fun X hX => ?_) ?_
      · go_simp
      simp only [Act.put, List.setIfInBounds_toArray, List.set_cons_zero, List.set_cons_succ]
      refine RD.h_take 2 (.pointer (some ⟨s, 3, none⟩)) rfl (by kernel_rfl) (by kernel_rfl) (by kernel_rfl) (fun _ _ _ h => h) (by rfl) SX.out (fun X hX => ?_) ?_
      · go_simp
      simp only [Act.put, List.setIfInBounds_toArray, List.set_cons_zero, List.set_cons_succ]
      refine RD.h_take 3 (.pointer (some ⟨s, 3, none⟩)) rfl (by kernel_rfl) (by kernel_rfl) (by kernel_rfl) (fun _ _ _ h => h) (by rfl) SX.out (fun X hX => ?_) ?_
      · go_simp
      simp only [Act.put, List.setIfInBounds_toArray, List.set_cons_zero, List.set_cons_succ]
      refine RD.h_take 4 (.pointer (some ⟨s, 3, none⟩)) rfl (by kernel_rfl) (by kernel_rfl) (by kernel_rfl) (fun _ _ _ h => h) (by rfl) SX.out (fun X hX => ?_) ?_
      · go_simp
      simp only [Act.put, List.setIfInBounds_toArray, List.set_cons_zero, List.set_cons_succ]
      refine RD.h_take 5 (.int .u64 (Z.num : Int)) rfl (by kernel_rfl) (by kernel_rfl) (by kernel_rfl) (fun _ _ _ h => h) (by rfl) SX.out (fun X hX => ?_) ?_
      · go_simp
      simp only [Act.put, List.setIfInBounds_toArray, List.set_cons_zero, List.set_cons_succ]
      refine RD.h_take 6 (.int .u64 (nx : Int)) rfl (by kernel_rfl) (by kernel_rfl) (by kernel_rfl) (fun _ _ _ h => h) (by rfl) SX.out (fun X hX => ?_) ?_
      · go_simp
      simp only [Act.put, List.setIfInBounds_toArray, List.set_cons_zero, List.set_cons_succ]
      refine RD.h_take 7 (.slice A n c) rfl (by kernel_rfl) (by kernel_rfl) (by kernel_rfl) (fun _ _ _ h => h) (by rfl) SX.out (fun X hX => ?_) ?_
      · go_simp
      simp only [Act.put, List.setIfInBounds_toArray, List.set_cons_zero, List.set_cons_succ]
      obtain ⟨wd, hwd⟩ : ∃ wd, w0.drew = wd := ⟨_, rfl⟩
      rw [hwd] at GD
      try rw [hwd]
      have BD := Lib.hid (show Below w0.heap.size w0 wd from GD.out)
      clear hwd SX
      refine RD.h_any [8, 11] (by kernel_rfl) (by simp) (RD.two_of ?_ ?_)
      · skip
        obtain ⟨gb, hgb⟩ : ∃ gb, wd.heap.size = gb := ⟨_, rfl⟩
        obtain ⟨wb1, hwb⟩ : ∃ wb, wd.alloc (.cells #[.slice A n c] 23) = wb := ⟨_, rfl⟩
        have LB := Lib.hid (show Below wd.heap.size wd wb1 from by rw [← hwb]; exact (Below.refl _ _).alloc (Nat.le_refl _) _)
        have BB1 := Lib.hid (show Below w0.heap.size w0 wb1 from BD.out.trans (LB.out.mono BD.out.size))
        have QB := Lib.hid (show RdBs wb1 (some ⟨gb, 0, none⟩) 1 1 [b] from by rw [← hwb]; exact RdBs.built1To wd gb hgb _ (HR.out.below (B0.out.trans (BD.out.mono B0.out.size))))
        refine RD.h_run (.slice (some ⟨gb, 0, none⟩) 1 1) wb1 rfl (by rfl) (by go_simp) ⟨KX.out _ BB1.out, ?_⟩
        simp only [Act.put, List.setIfInBounds_toArray, List.set_cons_zero, List.set_cons_succ]
        clear hgb hwb
        refine RD.h_any [9, 11] (by kernel_rfl) (by simp) (RD.two_of ?_ ?_)
        · skip
          refine RD.h_call 32 #[.slice (some ⟨gb, 0, none⟩) 1 1] rfl (by rfl) (by go_simp) ((CAT.out wb1 gb QB.out).mono ?_)
          rintro e wc2 ⟨A1, c1, rfl, r1, p1, b1⟩
          have R1 := Lib.hid r1
          have P1 := Lib.hid p1
          have LC := Lib.hid (show Below wb1.heap.size wb1 wc2 from b1)
          have BC2 := Lib.hid (show Below w0.heap.size w0 wc2 from BB1.out.trans (b1.mono BB1.out.size))
          have PA := Lib.hid (show ∀ a, 0 < n → A1 = some a → w0.heap.size ≤ a.block from fun a _ h => Nat.le_trans BB1.out.size (P1.out a h))
          clear r1 p1 b1
          refine ⟨_, rfl, KX.out _ BC2.out, ?_⟩
          simp only [Act.put, List.setIfInBounds_toArray, List.set_cons_zero, List.set_cons_succ]
          refine RD.h_take 10 (.agg #[.int .u64 (nx : Int), .slice A1 n c1]) rfl (by kernel_rfl) (by kernel_rfl) (by kernel_rfl) (fun _ _ _ h => h) (by rfl) (KX.out _ BC2.out) (fun X hX => ?_) ?_
          · go_simp
          simp only [Act.put, List.setIfInBounds_toArray, List.set_cons_zero, List.set_cons_succ]
          refine RD.h_any [11] (by kernel_rfl) (by simp) (RD.one_of ?_)
          obtain ⟨gr, hgr⟩ : ∃ gr, wc2.heap.size = gr := ⟨_, rfl⟩
          obtain ⟨wr3, hwr⟩ : ∃ wr, wc2.alloc (.cells #[.int .u64 0, .slice none 0 0] 81) = wr := ⟨_, rfl⟩
          have LR := Lib.hid (show Below wc2.heap.size wc2 wr3 from by rw [← hwr]; exact (Below.refl _ _).alloc (Nat.le_refl _) _)
          have BR3 := Lib.hid (show Below w0.heap.size w0 wr3 from BC2.out.trans (LR.out.mono BC2.out.size))
          have KR := Lib.hid (show Bk wr3 gr 81 #[.int .u64 0, .slice none 0 0] from by rw [← hwr]; exact Bk.newAt _ _ _ _ hgr)
          have GR := Lib.hid (show w0.heap.size ≤ gr from by rw [← hgr]; exact BC2.out.size)
          have GE := Lib.hid (show wc2.heap.size = gr from hgr)
          refine RD.h_run (.pointer (some ⟨gr, 0, none⟩)) wr3 rfl (by rfl) (by go_simp) ⟨KX.out _ BR3.out, ?_⟩
          simp only [Act.put, List.setIfInBounds_toArray, List.set_cons_zero, List.set_cons_succ]
          clear hgr hwr
          refine RD.h_any [12] (by kernel_rfl) (by simp) (RD.one_of ?_)
          have KE := Lib.hid (show Bk wr3 gr 81 #[.int .u64 0, .slice none 0 0] from KR.out)
          have RE := Lib.hid (show Rd wr3 A1 n c1 b from R1.out.below LR.out)
          have NE := Lib.hid (show ∀ a, 0 < n → A1 = some a → a.block ≠ gr from fun a h1 h2 e => by
            obtain ⟨bb, off, e2, hb, _⟩ := R1.out.at_ h1
            rw [h2] at e2
            injection e2 with e2
            subst e2
            have := GE.out
            have e3 : bb = gr := e
            omega)
          have i0 : wr3.cell? ⟨gr, 0, none⟩ = some (.int .u64 0) := KE.out.cell 0
          have i1 : wr3.cell? ⟨gr, 1, none⟩ = some (.slice none 0 0) := KE.out.cell 1
          have z0 := KE.out.frozen 0
          have z1 := KE.out.frozen 1
          have BZ := Lib.hid (show Below w0.heap.size w0 ((wr3.setCell ⟨gr, 0, none⟩ (.int .u64 (nx : Int))).setCell ⟨gr, 1, none⟩ (.slice A1 n c1)) from (BR3.out.setCell (p := ⟨gr, 0, none⟩) GR.out _).setCell (p := ⟨gr, 1, none⟩) GR.out _)
          refine RD.h_skip ((wr3.setCell ⟨gr, 0, none⟩ (.int .u64 (nx : Int))).setCell ⟨gr, 1, none⟩ (.slice A1 n c1)) rfl (by rfl) (by go_simp) ⟨KX.out _ BZ.out, ?_⟩
          simp only [Act.put, List.setIfInBounds_toArray, List.set_cons_zero, List.set_cons_succ]
          refine RD.h_done (by kernel_rfl) ?_
          refine NoPanic.normal ?_
          go_wp2_with (fail)
          go_meet
          exact ⟨gr, A1, c1, rfl, (KE.out.put 0 _).put 1 _, rd_farB (rd_farB RE.out NE.out _ _) NE.out _ _, PA.out, GR.out, BZ.out⟩
        · skip
          obtain ⟨gr, hgr⟩ : ∃ gr, wb1.heap.size = gr := ⟨_, rfl⟩
          obtain ⟨wr4, hwr⟩ : ∃ wr, wb1.alloc (.cells #[.int .u64 0, .slice none 0 0] 81) = wr := ⟨_, rfl⟩
          have LR := Lib.hid (show Below wb1.heap.size wb1 wr4 from by rw [← hwr]; exact (Below.refl _ _).alloc (Nat.le_refl _) _)
          have BR4 := Lib.hid (show Below w0.heap.size w0 wr4 from BB1.out.trans (LR.out.mono BB1.out.size))
          have KR := Lib.hid (show Bk wr4 gr 81 #[.int .u64 0, .slice none 0 0] from by rw [← hwr]; exact Bk.newAt _ _ _ _ hgr)
          have GR := Lib.hid (show w0.heap.size ≤ gr from by rw [← hgr]; exact BB1.out.size)
          have GE := Lib.hid (show wb1.heap.size = gr from hgr)
          refine RD.h_run (.pointer (some ⟨gr, 0, none⟩)) wr4 rfl (by rfl) (by go_simp) ⟨KX.out _ BR4.out, ?_⟩
          simp only [Act.put, List.setIfInBounds_toArray, List.set_cons_zero, List.set_cons_succ]
          clear hgr hwr
          refine RD.h_any [9] (by kernel_rfl) (by simp) (RD.one_of ?_)
          have QB := Lib.hid (QB.out.below LR.out)
          refine RD.h_call 32 #[.slice (some ⟨gb, 0, none⟩) 1 1] rfl (by rfl) (by go_simp) ((CAT.out wr4 gb QB.out).mono ?_)
          rintro e wc5 ⟨A1, c1, rfl, r1, p1, b1⟩
          have R1 := Lib.hid r1
          have P1 := Lib.hid p1
          have LC := Lib.hid (show Below wr4.heap.size wr4 wc5 from b1)
          have BC5 := Lib.hid (show Below w0.heap.size w0 wc5 from BR4.out.trans (b1.mono BR4.out.size))
          have PA := Lib.hid (show ∀ a, 0 < n → A1 = some a → w0.heap.size ≤ a.block from fun a _ h => Nat.le_trans BR4.out.size (P1.out a h))
          clear r1 p1 b1
          refine ⟨_, rfl, KX.out _ BC5.out, ?_⟩
          simp only [Act.put, List.setIfInBounds_toArray, List.set_cons_zero, List.set_cons_succ]
          refine RD.h_take 10 (.agg #[.int .u64 (nx : Int), .slice A1 n c1]) rfl (by kernel_rfl) (by kernel_rfl) (by kernel_rfl) (fun _ _ _ h => h) (by rfl) (KX.out _ BC5.out) (fun X hX => ?_) ?_
          · go_simp
          simp only [Act.put, List.setIfInBounds_toArray, List.set_cons_zero, List.set_cons_succ]
          refine RD.h_any [12] (by kernel_rfl) (by simp) (RD.one_of ?_)
          have KE := Lib.hid (show Bk wc5 gr 81 #[.int .u64 0, .slice none 0 0] from KR.out.below LC.out KR.out.lt)
          have RE := Lib.hid (show Rd wc5 A1 n c1 b from R1.out)
          have NE := Lib.hid (show ∀ a, 0 < n → A1 = some a → a.block ≠ gr from fun a _ h2 e => by have := P1.out a h2; have := KR.out.lt; omega)
          have i0 : wc5.cell? ⟨gr, 0, none⟩ = some (.int .u64 0) := KE.out.cell 0
          have i1 : wc5.cell? ⟨gr, 1, none⟩ = some (.slice none 0 0) := KE.out.cell 1
          have z0 := KE.out.frozen 0
          have z1 := KE.out.frozen 1
          have BZ := Lib.hid (show Below w0.heap.size w0 ((wc5.setCell ⟨gr, 0, none⟩ (.int .u64 (nx : Int))).setCell ⟨gr, 1, none⟩ (.slice A1 n c1)) from (BC5.out.setCell (p := ⟨gr, 0, none⟩) GR.out _).setCell (p := ⟨gr, 1, none⟩) GR.out _)
          refine RD.h_skip ((wc5.setCell ⟨gr, 0, none⟩ (.int .u64 (nx : Int))).setCell ⟨gr, 1, none⟩ (.slice A1 n c1)) rfl (by rfl) (by go_simp) ⟨KX.out _ BZ.out, ?_⟩
          simp only [Act.put, List.setIfInBounds_toArray, List.set_cons_zero, List.set_cons_succ]
          refine RD.h_done (by kernel_rfl) ?_
          refine NoPanic.normal ?_
          go_wp2_with (fail)
          go_meet
          exact ⟨gr, A1, c1, rfl, (KE.out.put 0 _).put 1 _, rd_farB (rd_farB RE.out NE.out _ _) NE.out _ _, PA.out, GR.out, BZ.out⟩
      · skip
        obtain ⟨gr, hgr⟩ : ∃ gr, wd.heap.size = gr := ⟨_, rfl⟩
        obtain ⟨wr6, hwr⟩ : ∃ wr, wd.alloc (.cells #[.int .u64 0, .slice none 0 0] 81) = wr := ⟨_, rfl⟩
        have LR := Lib.hid (show Below wd.heap.size wd wr6 from by rw [← hwr]; exact (Below.refl _ _).alloc (Nat.le_refl _) _)
        have BR6 := Lib.hid (show Below w0.heap.size w0 wr6 from BD.out.trans (LR.out.mono BD.out.size))
        have KR := Lib.hid (show Bk wr6 gr 81 #[.int .u64 0, .slice none 0 0] from by rw [← hwr]; exact Bk.newAt _ _ _ _ hgr)
        have GR := Lib.hid (show w0.heap.size ≤ gr from by rw [← hgr]; exact BD.out.size)
        have GE := Lib.hid (show wd.heap.size = gr from hgr)
        refine RD.h_run (.pointer (some ⟨gr, 0, none⟩)) wr6 rfl (by rfl) (by go_simp) ⟨KX.out _ BR6.out, ?_⟩
        simp only [Act.put, List.setIfInBounds_toArray, List.set_cons_zero, List.set_cons_succ]
        clear hgr hwr
        refine RD.h_any [8] (by kernel_rfl) (by simp) (RD.one_of ?_)
        obtain ⟨gb, hgb⟩ : ∃ gb, wr6.heap.size = gb := ⟨_, rfl⟩
        obtain ⟨wb7, hwb⟩ : ∃ wb, wr6.alloc (.cells #[.slice A n c] 23) = wb := ⟨_, rfl⟩
        have LB := Lib.hid (show Below wr6.heap.size wr6 wb7 from by rw [← hwb]; exact (Below.refl _ _).alloc (Nat.le_refl _) _)
        have BB7 := Lib.hid (show Below w0.heap.size w0 wb7 from BR6.out.trans (LB.out.mono BR6.out.size))
        have QB := Lib.hid (show RdBs wb7 (some ⟨gb, 0, none⟩) 1 1 [b] from by rw [← hwb]; exact RdBs.built1To wr6 gb hgb _ (HR.out.below (B0.out.trans (BR6.out.mono B0.out.size))))
        refine RD.h_run (.slice (some ⟨gb, 0, none⟩) 1 1) wb7 rfl (by rfl) (by go_simp) ⟨KX.out _ BB7.out, ?_⟩
        simp only [Act.put, List.setIfInBounds_toArray, List.set_cons_zero, List.set_cons_succ]
        clear hgb hwb
        refine RD.h_any [9] (by kernel_rfl) (by simp) (RD.one_of ?_)
        refine RD.h_call 32 #[.slice (some ⟨gb, 0, none⟩) 1 1] rfl (by rfl) (by go_simp) ((CAT.out wb7 gb QB.out).mono ?_)
        rintro e wc8 ⟨A1, c1, rfl, r1, p1, b1⟩
        have R1 := Lib.hid r1
        have P1 := Lib.hid p1
        have LC := Lib.hid (show Below wb7.heap.size wb7 wc8 from b1)
        have BC8 := Lib.hid (show Below w0.heap.size w0 wc8 from BB7.out.trans (b1.mono BB7.out.size))
        have PA := Lib.hid (show ∀ a, 0 < n → A1 = some a → w0.heap.size ≤ a.block from fun a _ h => Nat.le_trans BB7.out.size (P1.out a h))
        clear r1 p1 b1
        refine ⟨_, rfl, KX.out _ BC8.out, ?_⟩
        simp only [Act.put, List.setIfInBounds_toArray, List.set_cons_zero, List.set_cons_succ]
        refine RD.h_take 10 (.agg #[.int .u64 (nx : Int), .slice A1 n c1]) rfl (by kernel_rfl) (by kernel_rfl) (by kernel_rfl) (fun _ _ _ h => h) (by rfl) (KX.out _ BC8.out) (fun X hX => ?_) ?_
        · go_simp
        simp only [Act.put, List.setIfInBounds_toArray, List.set_cons_zero, List.set_cons_succ]
        refine RD.h_any [12] (by kernel_rfl) (by simp) (RD.one_of ?_)
        have KE := Lib.hid (show Bk wc8 gr 81 #[.int .u64 0, .slice none 0 0] from (KR.out.below LB.out KR.out.lt).below LC.out (KR.out.below LB.out KR.out.lt).lt)
        have RE := Lib.hid (show Rd wc8 A1 n c1 b from R1.out)
        have NE := Lib.hid (show ∀ a, 0 < n → A1 = some a → a.block ≠ gr from fun a _ h2 e => by have := P1.out a h2; have := KR.out.lt; have := LB.out.size; omega)
        have i0 : wc8.cell? ⟨gr, 0, none⟩ = some (.int .u64 0) := KE.out.cell 0
        have i1 : wc8.cell? ⟨gr, 1, none⟩ = some (.slice none 0 0) := KE.out.cell 1
        have z0 := KE.out.frozen 0
        have z1 := KE.out.frozen 1
        have BZ := Lib.hid (show Below w0.heap.size w0 ((wc8.setCell ⟨gr, 0, none⟩ (.int .u64 (nx : Int))).setCell ⟨gr, 1, none⟩ (.slice A1 n c1)) from (BC8.out.setCell (p := ⟨gr, 0, none⟩) GR.out _).setCell (p := ⟨gr, 1, none⟩) GR.out _)
        refine RD.h_skip ((wc8.setCell ⟨gr, 0, none⟩ (.int .u64 (nx : Int))).setCell ⟨gr, 1, none⟩ (.slice A1 n c1)) rfl (by rfl) (by go_simp) ⟨KX.out _ BZ.out, ?_⟩
        simp only [Act.put, List.setIfInBounds_toArray, List.set_cons_zero, List.set_cons_succ]
        refine RD.h_done (by kernel_rfl) ?_
        refine NoPanic.normal ?_
        go_wp2_with (fail)
        go_meet
        exact ⟨gr, A1, c1, rfl, (KE.out.put 0 _).put 1 _, rd_farB (rd_farB RE.out NE.out _ _) NE.out _ _, PA.out, GR.out, BZ.out⟩
    case rest =>
      obtain ⟨W0, rfl⟩ : ∃ W0, W0 = wc := ⟨_, rfl⟩
      obtain ⟨gr, A1, c1, rfl, hK, hR1, hP1, hgr, hB⟩ := hcut
      have KR := Lib.hid hK
      have R1 := Lib.hid hR1
      have GR := Lib.hid hgr
      have BC := Lib.hid hB
      have P1 := Lib.hid (show ∀ a, 0 < n → A1 = some a → w0.heap.size ≤ a.block ∧ a.block < W0.heap.size from fun a h1 h2 => ⟨hP1 a h1 h2, by
        obtain ⟨bb, off, e, hb, _⟩ := hR1.at_ h1
        rw [h2] at e
        injection e with e
        subst e
        exact hb⟩)
      have HG3 := Lib.hid (show w.heap.size = g3 ∧ w0.heap.size = g3 + 1 from HD.out.2.2.2.2)
      clear hK hR1 hP1 hgr hB y1 y2 a1 a2 GD KX CAT
      have SC := Lib.hid (S0.out.grow BC.out)
      have KC := Lib.hid (K3.out.below BC.out K3.out.lt)
      have BWC := Lib.hid (B0.out.trans (BC.out.mono B0.out.size))
      have GD := Lib.hid (Below.refl W0.heap.size W0).drew
      have ALL := Lib.hid (show ∀ X, Sz N X s g Z S → Bk X gr 81 #[.int .u64 (nx : Int), .slice A1 n c1] → X.cell? ⟨s, 5, none⟩ = some (.int .i64 (tt : Int)) ∧ X.cell? ⟨s, 2, none⟩ = some (.int .i64 (zn : Int)) ∧ X.cell? ⟨gr, 0, none⟩ = some (.int .u64 (nx : Int)) ∧ X.cell? ⟨gr, 1, none⟩ = some (.slice A1 n c1) from fun X h1 h2 => ⟨CT.out X h1, (CS.out X h1).2.1, h2.cell 0, h2.cell 1⟩)
      have AB := Lib.hid (show ∀ X, Below W0.heap.size W0 X → X.cell? ⟨s, 5, none⟩ = some (.int .i64 (tt : Int)) ∧ X.cell? ⟨s, 2, none⟩ = some (.int .i64 (zn : Int)) ∧ X.cell? ⟨gr, 0, none⟩ = some (.int .u64 (nx : Int)) ∧ X.cell? ⟨gr, 1, none⟩ = some (.slice A1 n c1) from fun X hX => ALL.out X (SC.out.grow hX) (KR.out.below hX KR.out.lt))
      have AM := Lib.hid (show ∀ (Fx : Nat → Prop) (X Y : World), Below W0.heap.size W0 X → Mv N Fx X Y → (∀ b, Fx b → F b ∨ W0.heap.size ≤ b) → Sz N Y s g Z S ∧ Bk Y gr 81 #[.int .u64 (nx : Int), .slice A1 n c1] ∧ Rd Y A1 n c1 b ∧ Bk Y g3 29 #[.int .i64 0] from fun Fx X Y hX m hF => by
        have q1 : ∀ b, Fx b → ¬ S b := fun b h h2 => (hF b h).elim (fun h => HD.out.1 b h h2) (fun h => by have := HD.out.2.2.1 b h2; have := BC.out.size; have := HG3.out; omega)
        have q2 : ∀ b, w0.heap.size ≤ b → b < W0.heap.size → ¬ Fx b := fun b h1 h2 h => (hF b h).elim (fun h => by have := HD.out.2.1 b h; have := HG3.out; omega) (fun h => by omega)
        refine ⟨(SC.out.grow hX).mv m q1, m.bk (KR.out.below hX KR.out.lt) (q2 gr GR.out KR.out.lt), m.rd (R1.out.below hX) (fun a h1 h2 => q2 _ (P1.out a h1 h2).1 (P1.out a h1 h2).2), m.bk (KC.out.below hX KC.out.lt) (fun h => (hF g3 h).elim (fun h => by have := HD.out.2.1 _ h; omega) (fun h => by have := BC.out.size; have := HG3.out; omega))⟩)
      have LAYC := Lib.hid (show ∀ X, Below W0.heap.size W0 X → Calls Tryz.prog 58 #[.agg #[.int .u64 (nx : Int), .slice A1 n c1], .int .i64 (zn : Int)] X fun e w' => ∃ A' c', e = .returned (.slice A' (64 * zn) c') ∧ Rd w' A' (64 * zn) c' xs ∧ (∀ a, A' = some a → X.heap.size ≤ a.block) ∧ Below X.heap.size X w' from fun X hX => LAY.out X A1 c1 (BWC.out.trans (hX.mono BWC.out.size)) (R1.out.below hX))
      by_cases hcw : cw = 0
      · subst hcw
        rw [if_pos rfl] at HSC HSD
        go_upto_region 4 with (fail)
        go_cut [5] from 27 (fun s5 wx => s5 = .pointer (some ⟨gr, 0, none⟩) ∧ ∃ F1, Kn N wx g Dw F1 ∧ (∀ b, F1 b → F b ∨ W0.heap.size ≤ b) ∧ Mv N (Or2 F S) w wx ∧ Sz N wx s g Z S ∧ Bk wx gr 81 #[.int .u64 (nx : Int), .slice A1 n c1] ∧ Rd wx A1 n c1 b ∧ Bk wx g3 29 #[.int .i64 0] ∧ W0.heap.size ≤ wx.heap.size)
        case first =>
          refine wp_region_noPanic ?_
          refine wp_region_held_drew (S := fun X => X.cell? ⟨s, 5, none⟩ = some (.int .i64 (tt : Int)) ∧ X.cell? ⟨s, 2, none⟩ = some (.int .i64 (zn : Int)) ∧ X.cell? ⟨gr, 0, none⟩ = some (.int .u64 (nx : Int)) ∧ X.cell? ⟨gr, 1, none⟩ = some (.slice A1 n c1)) (by kernel_rfl) (AB.out _ GD.out) (fun sx => ?_)
          have SX := Lib.hid sx
          clear sx
          refine RD.h_take 0 (.pointer (some ⟨s, 0, none⟩)) rfl (by kernel_rfl) (by kernel_rfl) (by kernel_rfl) (fun _ _ _ h => h) (by rfl) SX.out (fun X hX => ?_) ?_
          · obtain ⟨h0, h1, h2, h3⟩ := hX; go_simp
          simp only [Act.put, List.setIfInBounds_toArray, List.set_cons_zero, List.set_cons_succ]
          refine RD.h_take 1 (.pointer (some ⟨s, 0, none⟩)) rfl (by kernel_rfl) (by kernel_rfl) (by kernel_rfl) (fun _ _ _ h => h) (by rfl) SX.out (fun X hX => ?_) ?_
          · obtain ⟨h0, h1, h2, h3⟩ := hX; go_simp
          simp only [Act.put, List.setIfInBounds_toArray, List.set_cons_zero, List.set_cons_succ]
          refine RD.h_take 2 (.pointer (some ⟨s, 0, none⟩)) rfl (by kernel_rfl) (by kernel_rfl) (by kernel_rfl) (fun _ _ _ h => h) (by rfl) SX.out (fun X hX => ?_) ?_
          · obtain ⟨h0, h1, h2, h3⟩ := hX; go_simp
          simp only [Act.put, List.setIfInBounds_toArray, List.set_cons_zero, List.set_cons_succ]
          refine RD.h_take 3 (.pointer (some ⟨s, 3, none⟩)) rfl (by kernel_rfl) (by kernel_rfl) (by kernel_rfl) (fun _ _ _ h => h) (by rfl) SX.out (fun X hX => ?_) ?_
          · obtain ⟨h0, h1, h2, h3⟩ := hX; go_simp
          simp only [Act.put, List.setIfInBounds_toArray, List.set_cons_zero, List.set_cons_succ]
          refine RD.h_take 4 (.pointer (some ⟨s, 5, none⟩)) rfl (by kernel_rfl) (by kernel_rfl) (by kernel_rfl) (fun _ _ _ h => h) (by rfl) SX.out (fun X hX => ?_) ?_
          · obtain ⟨h0, h1, h2, h3⟩ := hX; go_simp
          simp only [Act.put, List.setIfInBounds_toArray, List.set_cons_zero, List.set_cons_succ]
          refine RD.h_take 5 (.int .i64 (tt : Int)) rfl (by kernel_rfl) (by kernel_rfl) (by kernel_rfl) (fun _ _ _ h => h) (by rfl) SX.out (fun X hX => ?_) ?_
          · obtain ⟨h0, h1, h2, h3⟩ := hX; go_simp
          simp only [Act.put, List.setIfInBounds_toArray, List.set_cons_zero, List.set_cons_succ]
          refine RD.h_take 6 (.agg #[.int .u64 (nx : Int), .slice A1 n c1]) rfl (by kernel_rfl) (by kernel_rfl) (by kernel_rfl) (fun _ _ _ h => h) (by rfl) SX.out (fun X hX => ?_) ?_
          · obtain ⟨h0, h1, h2, h3⟩ := hX; go_simp
          simp only [Act.put, List.setIfInBounds_toArray, List.set_cons_zero, List.set_cons_succ]
          refine RD.h_take 7 (.pointer (some ⟨s, 0, none⟩)) rfl (by kernel_rfl) (by kernel_rfl) (by kernel_rfl) (fun _ _ _ h => h) (by rfl) SX.out (fun X hX => ?_) ?_
          · obtain ⟨h0, h1, h2, h3⟩ := hX; go_simp
          simp only [Act.put, List.setIfInBounds_toArray, List.set_cons_zero, List.set_cons_succ]
          refine RD.h_take 8 (.pointer (some ⟨s, 0, none⟩)) rfl (by kernel_rfl) (by kernel_rfl) (by kernel_rfl) (fun _ _ _ h => h) (by rfl) SX.out (fun X hX => ?_) ?_
          · obtain ⟨h0, h1, h2, h3⟩ := hX; go_simp
          simp only [Act.put, List.setIfInBounds_toArray, List.set_cons_zero, List.set_cons_succ]
          refine RD.h_take 9 (.pointer (some ⟨s, 2, none⟩)) rfl (by kernel_rfl) (by kernel_rfl) (by kernel_rfl) (fun _ _ _ h => h) (by rfl) SX.out (fun X hX => ?_) ?_
          · obtain ⟨h0, h1, h2, h3⟩ := hX; go_simp
          simp only [Act.put, List.setIfInBounds_toArray, List.set_cons_zero, List.set_cons_succ]
          refine RD.h_take 10 (.int .i64 (zn : Int)) rfl (by kernel_rfl) (by kernel_rfl) (by kernel_rfl) (fun _ _ _ h => h) (by rfl) SX.out (fun X hX => ?_) ?_
          · obtain ⟨h0, h1, h2, h3⟩ := hX; go_simp
          simp only [Act.put, List.setIfInBounds_toArray, List.set_cons_zero, List.set_cons_succ]
          refine RD.h_any [11] (by kernel_rfl) (by simp) (RD.one_of ?_)
          refine RD.h_call 58 #[.agg #[.int .u64 (nx : Int), .slice A1 n c1], .int .i64 (zn : Int)] rfl (by rfl) (by go_simp) ((LAYC.out _ GD.out).mono ?_)
          rintro e w11 ⟨A11, c11, rfl, r11, p11, b11⟩
          have R11 := Lib.hid r11
          have P11 := Lib.hid p11
          have B11 := Lib.hid (GD.out.trans (b11.mono GD.out.size))
          clear r11 p11 b11
          have WR := Lib.hid (WRT.out w11 A11 c11 (BC.out.trans (B11.out.mono BC.out.size)) R11.out (fun a h => Nat.le_trans BC.out.size (P11.out a h)))
          refine ⟨_, rfl, AB.out _ B11.out, ?_⟩
          simp only [Act.put, List.setIfInBounds_toArray, List.set_cons_zero, List.set_cons_succ]
          refine RD.h_any [12] (by kernel_rfl) (by simp) (RD.one_of ?_)
          refine RD.h_call 57 #[.pointer (some ⟨s, 0, none⟩), .int .i64 (tt : Int), .slice A11 (64 * zn) c11] rfl (by rfl) (by go_simp) (WR.out.mono ?_)
          rintro e w12 ⟨rfl, F1, k1, f1, m1⟩
          have F1S := Lib.hid (show ∀ b, F1 b → F b ∨ W0.heap.size ≤ b from fun b h => (f1 b h).imp id (Nat.le_trans B11.out.size))
          have AMX := Lib.hid (AM.out F w11 w12 B11.out m1 (fun b h => .inl h))
          have M12 := Lib.hid (show Mv N (Or2 F S) w w12 from (Mv.of HD.out.2.2.2.1 (BWC.out.trans (B11.out.mono BWC.out.size))).trans m1 (fun b h => .inl (.inl h)))
          have Z12 := Lib.hid (show W0.heap.size ≤ w12.heap.size from Nat.le_trans B11.out.size m1.size)
          have K12 := Lib.hid k1
          clear k1 f1 m1
          refine ⟨_, rfl, ALL.out _ AMX.out.1 AMX.out.2.1, ?_⟩
          simp only [Act.put, List.setIfInBounds_toArray, List.set_cons_zero, List.set_cons_succ]
          refine RD.h_done (by kernel_rfl) ?_
          refine NoPanic.normal ?_
          go_wp2_with (fail)
          go_meet
          exact ⟨rfl, F1, K12.out, F1S.out, M12.out, AMX.out.1, AMX.out.2.1, AMX.out.2.2.1, AMX.out.2.2.2, Z12.out⟩
        case rest =>
          obtain ⟨rfl, F1, k1, f1, m1, z1, kr1, r1, k31, s1⟩ := hcut
          have K1 := Lib.hid k1
          have F1S := Lib.hid f1
          have M1 := Lib.hid m1
          have Z1 := Lib.hid z1
          have KR1 := Lib.hid kr1
          have RR1 := Lib.hid r1
          have K31 := Lib.hid k31
          have SZ1 := Lib.hid s1
          obtain ⟨j0, _, _, _⟩ := CS.out _ z1
          clear k1 f1 m1 z1 kr1 r1 k31 s1
          obtain ⟨cf, hcf⟩ : ∃ cf, cf = Dw.stepC := ⟨_, rfl⟩
          rw [← hcf] at HSC
          have FL := Lib.hid (show Calls Tryz.prog 60 #[.pointer (some ⟨g, 0, none⟩)] wc (Post Kn N F1 g wc Dw.flush (.int .i64 (cf : Int))) from by rw [hcf]; exact flush_any N wc g Dw F1 K1.out DC_.out)
          have FB := Lib.hid (show ∀ (Fx : Nat → Prop) (Y : World), Mv N F1 wc Y → (∀ b, Fx b → F1 b ∨ wc.heap.size ≤ b) → Sz N Y s g Z S ∧ Bk Y gr 81 #[.int .u64 (nx : Int), .slice A1 n c1] ∧ Rd Y A1 n c1 b ∧ Bk Y g3 29 #[.int .i64 0] ∧ (∀ b, Fx b → F b ∨ g3 < b) ∧ (∀ b, Fx b → ¬ S b) ∧ Mv N (Or2 F S) w Y ∧ (∀ a, 0 < n → A1 = some a → ¬ Fx a.block ∧ g3 < a.block ∧ N ≤ a.block) from fun Fx Y m hF => by
            have hwc := BC.out.size
            have h3 := HG3.out
            have hs := SZ1.out
            have q1 : ∀ b, F1 b → ¬ S b := fun b h h2 => (F1S.out b h).elim (fun h => HD.out.1 b h h2) (fun h => by have := HD.out.2.2.1 b h2; omega)
            have q2 : ∀ b, g3 ≤ b → b < W0.heap.size → ¬ F1 b := fun b h1 h2 h => (F1S.out b h).elim (fun h => by have := HD.out.2.1 b h; omega) (fun h => by omega)
            have q3 : ∀ b, Fx b → F b ∨ W0.heap.size ≤ b := fun b h => (hF b h).elim (F1S.out b) (fun h => .inr (by omega))
            refine ⟨Z1.out.mv m q1, m.bk KR1.out (q2 gr (by have := GR.out; omega) KR.out.lt), m.rd RR1.out (fun a h1 h2 => q2 _ (by have := (P1.out a h1 h2).1; omega) (P1.out a h1 h2).2), m.bk K31.out (q2 g3 (Nat.le_refl _) (by omega)), fun b h => (q3 b h).imp id (by omega), fun b h h2 => (q3 b h).elim (fun h => HD.out.1 b h h2) (fun h => by have := HD.out.2.2.1 b h2; omega), M1.out.trans m (fun b h => (F1S.out b h).imp .inl (fun h => by omega)), fun a h1 h2 => ⟨fun h => (q3 _ h).elim (fun h => by have := HD.out.2.1 _ h; have := (P1.out a h1 h2).1; omega) (fun h => by have := (P1.out a h1 h2).2; omega), by have := (P1.out a h1 h2).1; omega, by have := (P1.out a h1 h2).1; have := HD.out.2.2.2.1; omega⟩⟩)
          by_cases hcf0 : cf = 0
          · subst hcf0
            have HS := Lib.hid (HSN.out HSC.out)
            clear hcf
            have DN0 := Lib.hid (show ∀ X, Calls Tryz.prog 59 #[.int .i64 0] X fun e w' => e = .returned (.tuple #[]) ∧ X = w' from fun X => DN.out 0 X)
            go_upto_region 6 with (first
              | (go_at_call 60; ((with_reducible refine FL.out.mono ?_); rintro e w13 ⟨rfl, F2, k2, f2, m2⟩; have K2 := Lib.hid k2; have AX := Lib.hid (FB.out F2 w13 m2 f2); clear k2 f2 m2))
              | (go_at_call 59; ((with_reducible refine (DN0.out _).mono ?_); rintro e w14 ⟨rfl, rfl⟩)))
            clear j0
            have G13 := Lib.hid (Below.refl w13.heap.size w13).drew
            have KB := Lib.hid (show ∀ (X : World), X.heap[gr]? = w13.heap[gr]? → X.cell? ⟨gr, 0, none⟩ = some (.int .u64 (nx : Int)) ∧ X.cell? ⟨gr, 1, none⟩ = some (.slice A1 n c1) from fun X hX => by
              have hb : Bk X gr 81 #[.int .u64 (nx : Int), .slice A1 n c1] := hX.trans AX.out.2.1
              exact ⟨hb.cell 0, hb.cell 1⟩)
            have SD := Lib.hid (AX.out.1.grow G13.out)
            have NGS := Lib.hid (show gr ≠ s from fun e => by have := HD.out.2.2.1 s AX.out.1.at_; have := GR.out; have := HG3.out; omega)
            obtain ⟨wd, hwd⟩ : ∃ wd, w13.drew = wd := ⟨_, rfl⟩
            rw [hwd] at G13 SD
            obtain ⟨A9, c9, hb9, _, _⟩ := SD.out.ex
            have i3 : wd.cell? ⟨s, 3, none⟩ = some (.int .u64 (Z.num : Int)) := hb9.cell 3
            have i4 : wd.cell? ⟨s, 4, none⟩ = some (.slice A9 Z.b.length c9) := hb9.cell 4
            have i5 : wd.cell? ⟨s, 5, none⟩ = some (.int .i64 (tt : Int)) := CT.out _ SD.out
            have z3 := hb9.frozen 3
            have z4 := hb9.frozen 4
            have z5 := hb9.frozen 5
            obtain ⟨ot, hot⟩ : ∃ ot, ot = 1 - tt := ⟨_, rfl⟩
            have OT := Lib.hid (show ∀ X, Calls Tryz.prog 61 #[.int .i64 (tt : Int)] X fun e w' => e = .returned (.int .i64 (ot : Int)) ∧ X = w' from fun X => by rw [hot]; exact HO.out X)
            rw [← hot] at HS
            clear hb9 hot
            refine wp_region_noPanic ?_
            refine wp_region_held_drew (S := fun X => X.cell? ⟨gr, 0, none⟩ = some (.int .u64 (nx : Int)) ∧ X.cell? ⟨gr, 1, none⟩ = some (.slice A1 n c1)) (by kernel_rfl) (KB.out _ rfl) (fun sx => ?_)
            rw [hwd]
            rw [hwd] at sx
            have SX := Lib.hid sx
            clear sx
            refine RD.h_take 0 (.pointer (some ⟨s, 0, none⟩)) rfl (by kernel_rfl) (by kernel_rfl) (by kernel_rfl) (fun _ _ _ h => h) (by rfl) SX.out (fun X hX => ?_) ?_
            · obtain ⟨h0, h1⟩ := hX; go_simp
            simp only [Act.put, List.setIfInBounds_toArray, List.set_cons_zero, List.set_cons_succ]
            refine RD.h_take 1 (.agg #[.int .u64 (nx : Int), .slice A1 n c1]) rfl (by kernel_rfl) (by kernel_rfl) (by kernel_rfl) (fun _ _ _ h => h) (by rfl) SX.out (fun X hX => ?_) ?_
            · obtain ⟨h0, h1⟩ := hX; go_simp
            simp only [Act.put, List.setIfInBounds_toArray, List.set_cons_zero, List.set_cons_succ]
            refine RD.h_take 2 (.pointer (some ⟨s, 0, none⟩)) rfl (by kernel_rfl) (by kernel_rfl) (by kernel_rfl) (fun _ _ _ h => h) (by rfl) SX.out (fun X hX => ?_) ?_
            · obtain ⟨h0, h1⟩ := hX; go_simp
            simp only [Act.put, List.setIfInBounds_toArray, List.set_cons_zero, List.set_cons_succ]
            refine RD.h_take 3 (.pointer (some ⟨s, 0, none⟩)) rfl (by kernel_rfl) (by kernel_rfl) (by kernel_rfl) (fun _ _ _ h => h) (by rfl) SX.out (fun X hX => ?_) ?_
            · obtain ⟨h0, h1⟩ := hX; go_simp
            simp only [Act.put, List.setIfInBounds_toArray, List.set_cons_zero, List.set_cons_succ]
            refine RD.h_take 4 (.pointer (some ⟨s, 3, none⟩)) rfl (by kernel_rfl) (by kernel_rfl) (by kernel_rfl) (fun _ _ _ h => h) (by rfl) SX.out (fun X hX => ?_) ?_
            · obtain ⟨h0, h1⟩ := hX; go_simp
            simp only [Act.put, List.setIfInBounds_toArray, List.set_cons_zero, List.set_cons_succ]
            refine RD.h_take 5 (.pointer (some ⟨s, 5, none⟩)) rfl (by kernel_rfl) (by kernel_rfl) (by kernel_rfl) (fun _ _ _ h => h) (by rfl) SX.out (fun X hX => ?_) ?_
            · obtain ⟨h0, h1⟩ := hX; go_simp
            simp only [Act.put, List.setIfInBounds_toArray, List.set_cons_zero, List.set_cons_succ]
            refine RD.h_any [6] (by kernel_rfl) (by simp) (RD.one_of ?_)
            refine RD.h_run (.int .i64 (tt : Int)) wd rfl (by rfl) (by go_simp) ⟨SX.out, ?_⟩
            simp only [Act.put, List.setIfInBounds_toArray, List.set_cons_zero, List.set_cons_succ]
            refine RD.h_any [7] (by kernel_rfl) (by simp) (RD.one_of ?_)
            refine RD.h_call 61 #[.int .i64 (tt : Int)] rfl (by rfl) (by go_simp) ((OT.out _).mono ?_)
            rintro e w15 ⟨rfl, rfl⟩
            refine ⟨_, rfl, SX.out, ?_⟩
            simp only [Act.put, List.setIfInBounds_toArray, List.set_cons_zero, List.set_cons_succ]
            refine RD.h_take 8 (.agg #[.int .u64 (nx : Int), .slice A1 n c1, .int .i64 (ot : Int)]) rfl (by kernel_rfl) (by kernel_rfl) (by kernel_rfl) (fun _ _ _ h => h) (by rfl) SX.out (fun X hX => ?_) ?_
            · obtain ⟨h0, h1⟩ := hX; go_simp
            simp only [Act.put, List.setIfInBounds_toArray, List.set_cons_zero, List.set_cons_succ]
            refine RD.h_take 9 (.pointer (some ⟨s, 0, none⟩)) rfl (by kernel_rfl) (by kernel_rfl) (by kernel_rfl) (fun _ _ _ h => h) (by rfl) SX.out (fun X hX => ?_) ?_
            · obtain ⟨h0, h1⟩ := hX; go_simp
            simp only [Act.put, List.setIfInBounds_toArray, List.set_cons_zero, List.set_cons_succ]
            refine RD.h_take 10 (.pointer (some ⟨s, 3, none⟩)) rfl (by kernel_rfl) (by kernel_rfl) (by kernel_rfl) (fun _ _ _ h => h) (by rfl) SX.out (fun X hX => ?_) ?_
            · obtain ⟨h0, h1⟩ := hX; go_simp
            simp only [Act.put, List.setIfInBounds_toArray, List.set_cons_zero, List.set_cons_succ]
            refine RD.h_any [11] (by kernel_rfl) (by simp) (RD.one_of ?_)
            obtain ⟨w7, hw7⟩ : ∃ w7, ((wd.setCell ⟨s, 3, none⟩ (.int .u64 (nx : Int))).setCell ⟨s, 4, none⟩ (.slice A1 n c1)).setCell ⟨s, 5, none⟩ (.int .i64 (ot : Int)) = w7 := ⟨_, rfl⟩
            have hne : ∀ b, b ≠ s → w7.heap[b]? = wd.heap[b]? := fun b hb => by
              rw [← hw7]
              exact (Below.heap_setCell _ ⟨s, 5, none⟩ _ b hb).trans ((Below.heap_setCell _ ⟨s, 4, none⟩ _ b hb).trans (Below.heap_setCell _ ⟨s, 3, none⟩ _ b hb))
            have hz7 : w7.heap.size = wd.heap.size := by rw [← hw7]; simp
            have SZ7 := Lib.hid (show Sz N w7 s g (Z.save D b) (fun x => S x ∨ ∃ a, 0 < n ∧ A1 = some a ∧ a.block = x) from by
              rw [← hw7]
              exact SD.out.store (AX.out.2.2.1.below G13.out) (fun a h1 h2 => ⟨(AX.out.2.2.2.2.2.2.2 a h1 h2).2.2, fun e => by have h5 := (AX.out.2.2.2.2.2.2.2 a h1 h2).2.1; have := HD.out.2.2.1 s AX.out.1.at_; omega⟩) HS.out.1 HS.out.2.1 HS.out.2.2.1 HS.out.2.2.2.1 HS.out.2.2.2.2 (by have := HNB.out; omega))
            have M7 := Lib.hid (show Mv N (Or2 F S) w w7 from by
              have h1 : Mv N (Or2 F S) w wd := AX.out.2.2.2.2.2.2.1.trans (Mv.of (F := Or2 F S) (by have := (SD.out.sz).2; have := (AX.out.1.sz); omega) G13.out) (fun b h => .inl h)
              refine h1.trans (F' := S) ?_ (fun b h => .inl (.inr h))
              rw [← hw7]
              exact SD.out.stored _ _ _)
            have KN7 := Lib.hid (show Kn N w7 g Dw.flush F2 from (K2.out.below G13.out).keep (by omega) fun b hb _ => hne b fun e => AX.out.2.2.2.2.2.1 b hb (by rw [e]; exact AX.out.1.at_))
            have K37 := Lib.hid (show Bk w7 g3 29 #[.int .i64 0] from (hne g3 (fun e => by have := HD.out.2.2.1 s AX.out.1.at_; omega)).trans (AX.out.2.2.2.1.below G13.out AX.out.2.2.2.1.lt))
            have SB7 := Lib.hid (KB.out w7 ((hne gr NGS.out).trans (G13.out.block gr AX.out.2.1.lt)))
            refine RD.h_skip w7 rfl (by rfl) (by clear hne hz7; go_simp) ⟨SB7.out, ?_⟩
            simp only [Act.put, List.setIfInBounds_toArray, List.set_cons_zero, List.set_cons_succ]
            refine RD.h_done (by kernel_rfl) ?_
            refine NoPanic.normal ?_
            have j3 := cell_of_one K37.out
            have j4 := free_of_one K37.out
            clear hne hz7 hw7 i3 i4 i5 z3 z4 z5 hwd
            go_wp2_with (fail)
            refine ssave_ret (y := 0) (K37.out.put 0 _) rfl ?_
            have hX : (w7.setCell ⟨g3, 0, none⟩ (.int .i64 0)).setCell ⟨g3, 0, none⟩ (.int .i64 0) = w7.setCell ⟨g3, 0, none⟩ (.int .i64 0) := set_set _ _ _ _ _
            rw [hX, HSC.out, HSD.out]
            exact save_fin (cd := 0) HD.out.2.2.2.1 HD.out.2.2.2.2.1 KN7.out SZ7.out M7.out AX.out.2.2.2.2.1 (fun x h => h.imp id (fun ⟨a, h1, h2, h3⟩ => by have := (AX.out.2.2.2.2.2.2.2 a h1 h2).2.1; omega)) HD.out.2.1 HD.out.2.2.1 (fun x h h2 => h2.elim (AX.out.2.2.2.2.2.1 x h) (fun ⟨a, h3, h4, h5⟩ => (AX.out.2.2.2.2.2.2.2 a h3 h4).1 (by rw [h5]; exact h))) (Below.refl _ _) _
          · have HS := Lib.hid (HSV.out cf HSC.out hcf0)
            have DN1 := Lib.hid (show ∀ X, Calls Tryz.prog 59 #[.int .i64 (cf : Int)] X fun e w' => e = .panicked [LV.wrg (cf : Int)] ∧ X = w' from fun X => (DN.out cf X).mono fun e w' ⟨h1, h2⟩ => ⟨by rw [h1, stepE, if_neg hcf0], h2⟩)
            clear hcf hcf0
            go_wp2_with (first
              | (go_at_call 60; ((with_reducible refine FL.out.mono ?_); rintro e w13 ⟨rfl, F2, k2, f2, m2⟩; have K2 := Lib.hid k2; have AX := Lib.hid (FB.out F2 w13 m2 f2); clear k2 f2 m2))
              | (go_at_call 59; ((with_reducible refine (DN1.out _).mono ?_); rintro e w14 ⟨rfl, rfl⟩)))
            refine ssave_bad (y := 0) AX.out.2.2.2.1 rfl fun w9 hb => ?_
            rw [HSC.out, HSD.out, HS.out]
            exact save_fin (cd := cf) HD.out.2.2.2.1 HD.out.2.2.2.2.1 K2.out AX.out.1 AX.out.2.2.2.2.2.2.1 AX.out.2.2.2.2.1 (fun x h => .inl h) HD.out.2.1 HD.out.2.2.1 AX.out.2.2.2.2.2.1 hb _
      · rw [if_neg hcw] at HSC HSD
        have HS := Lib.hid (HSV.out cw HSC.out hcw)
        have EC := Lib.hid (show stepE cw = .panicked [LV.wrg (cw : Int)] from by rw [stepE, if_neg hcw])
        clear hcw
        go_upto_region 4 with (fail)
        refine Code.wp_mono (po_imp (R := fun c X => c = [LV.wrg (cw : Int)] ∧ Bk X g3 29 #[.int .i64 0] ∧ ∀ w9, Below X.heap.size X w9 → PostSv N s g F S w Dw Z cw (.returned (.int .i64 (cw : Int))) (w9.setCell ⟨g3, 0, none⟩ (.int .i64 (cw : Int)))) (d := [{ target := Target.fn (Fn.func 55) #[.pointer (some ⟨g3, 0, none⟩)], args := #[] }]) (t := 4) (v := .pointer (some ⟨g3, 0, none⟩)) ?_) ?_
        · rintro c ⟨tmps, dfs⟩ X h1 h2 ⟨h3, h4, h5⟩
          simp only at h1 h2
          subst h1 h3
          rw [HSC.out, HSD.out, HS.out]
          exact ssave_bad (y := 0) h4 h2 h5
        refine wp_region_held_drew (S := fun X => X.cell? ⟨s, 5, none⟩ = some (.int .i64 (tt : Int)) ∧ X.cell? ⟨s, 2, none⟩ = some (.int .i64 (zn : Int)) ∧ X.cell? ⟨gr, 0, none⟩ = some (.int .u64 (nx : Int)) ∧ X.cell? ⟨gr, 1, none⟩ = some (.slice A1 n c1)) (by kernel_rfl) (AB.out _ GD.out) (fun sx => ?_)
        have SX := Lib.hid sx
        clear sx
        refine RD.h_take 0 (.pointer (some ⟨s, 0, none⟩)) rfl (by kernel_rfl) (by kernel_rfl) (by kernel_rfl) (fun _ _ _ h => po_keep (by decide) h) (by rfl) SX.out (fun X hX => ?_) ?_
        · obtain ⟨h0, h1, h2, h3⟩ := hX; go_simp
        simp only [Act.put, List.setIfInBounds_toArray, List.set_cons_zero, List.set_cons_succ]
        refine RD.h_take 1 (.pointer (some ⟨s, 0, none⟩)) rfl (by kernel_rfl) (by kernel_rfl) (by kernel_rfl) (fun _ _ _ h => po_keep (by decide) h) (by rfl) SX.out (fun X hX => ?_) ?_
        · obtain ⟨h0, h1, h2, h3⟩ := hX; go_simp
        simp only [Act.put, List.setIfInBounds_toArray, List.set_cons_zero, List.set_cons_succ]
        refine RD.h_take 2 (.pointer (some ⟨s, 0, none⟩)) rfl (by kernel_rfl) (by kernel_rfl) (by kernel_rfl) (fun _ _ _ h => po_keep (by decide) h) (by rfl) SX.out (fun X hX => ?_) ?_
        · obtain ⟨h0, h1, h2, h3⟩ := hX; go_simp
        simp only [Act.put, List.setIfInBounds_toArray, List.set_cons_zero, List.set_cons_succ]
        refine RD.h_take 3 (.pointer (some ⟨s, 3, none⟩)) rfl (by kernel_rfl) (by kernel_rfl) (by kernel_rfl) (fun _ _ _ h => po_keep (by decide) h) (by rfl) SX.out (fun X hX => ?_) ?_
        · obtain ⟨h0, h1, h2, h3⟩ := hX; go_simp
        simp only [Act.put, List.setIfInBounds_toArray, List.set_cons_zero, List.set_cons_succ]
        refine RD.h_take 4 (.pointer (some ⟨s, 5, none⟩)) rfl (by kernel_rfl) (by kernel_rfl) (by kernel_rfl) (fun _ _ _ h => po_keep (by decide) h) (by rfl) SX.out (fun X hX => ?_) ?_
        · obtain ⟨h0, h1, h2, h3⟩ := hX; go_simp
        simp only [Act.put, List.setIfInBounds_toArray, List.set_cons_zero, List.set_cons_succ]
        refine RD.h_take 5 (.int .i64 (tt : Int)) rfl (by kernel_rfl) (by kernel_rfl) (by kernel_rfl) (fun _ _ _ h => po_keep (by decide) h) (by rfl) SX.out (fun X hX => ?_) ?_
        · obtain ⟨h0, h1, h2, h3⟩ := hX; go_simp
        simp only [Act.put, List.setIfInBounds_toArray, List.set_cons_zero, List.set_cons_succ]
        refine RD.h_take 6 (.agg #[.int .u64 (nx : Int), .slice A1 n c1]) rfl (by kernel_rfl) (by kernel_rfl) (by kernel_rfl) (fun _ _ _ h => po_keep (by decide) h) (by rfl) SX.out (fun X hX => ?_) ?_
        · obtain ⟨h0, h1, h2, h3⟩ := hX; go_simp
        simp only [Act.put, List.setIfInBounds_toArray, List.set_cons_zero, List.set_cons_succ]
        refine RD.h_take 7 (.pointer (some ⟨s, 0, none⟩)) rfl (by kernel_rfl) (by kernel_rfl) (by kernel_rfl) (fun _ _ _ h => po_keep (by decide) h) (by rfl) SX.out (fun X hX => ?_) ?_
        · obtain ⟨h0, h1, h2, h3⟩ := hX; go_simp
        simp only [Act.put, List.setIfInBounds_toArray, List.set_cons_zero, List.set_cons_succ]
        refine RD.h_take 8 (.pointer (some ⟨s, 0, none⟩)) rfl (by kernel_rfl) (by kernel_rfl) (by kernel_rfl) (fun _ _ _ h => po_keep (by decide) h) (by rfl) SX.out (fun X hX => ?_) ?_
        · obtain ⟨h0, h1, h2, h3⟩ := hX; go_simp
        simp only [Act.put, List.setIfInBounds_toArray, List.set_cons_zero, List.set_cons_succ]
        refine RD.h_take 9 (.pointer (some ⟨s, 2, none⟩)) rfl (by kernel_rfl) (by kernel_rfl) (by kernel_rfl) (fun _ _ _ h => po_keep (by decide) h) (by rfl) SX.out (fun X hX => ?_) ?_
        · obtain ⟨h0, h1, h2, h3⟩ := hX; go_simp
        simp only [Act.put, List.setIfInBounds_toArray, List.set_cons_zero, List.set_cons_succ]
        refine RD.h_take 10 (.int .i64 (zn : Int)) rfl (by kernel_rfl) (by kernel_rfl) (by kernel_rfl) (fun _ _ _ h => po_keep (by decide) h) (by rfl) SX.out (fun X hX => ?_) ?_
        · obtain ⟨h0, h1, h2, h3⟩ := hX; go_simp
        simp only [Act.put, List.setIfInBounds_toArray, List.set_cons_zero, List.set_cons_succ]
        refine RD.h_any [11] (by kernel_rfl) (by simp) (RD.one_of ?_)
        refine RD.h_call 58 #[.agg #[.int .u64 (nx : Int), .slice A1 n c1], .int .i64 (zn : Int)] rfl (by rfl) (by go_simp) ((LAYC.out _ GD.out).mono ?_)
        rintro e w11 ⟨A11, c11, rfl, r11, p11, b11⟩
        have R11 := Lib.hid r11
        have P11 := Lib.hid p11
        have B11 := Lib.hid (GD.out.trans (b11.mono GD.out.size))
        clear r11 p11 b11
        have WR := Lib.hid (WRT.out w11 A11 c11 (BC.out.trans (B11.out.mono BC.out.size)) R11.out (fun a h => Nat.le_trans BC.out.size (P11.out a h)))
        refine ⟨_, rfl, AB.out _ B11.out, ?_⟩
        simp only [Act.put, List.setIfInBounds_toArray, List.set_cons_zero, List.set_cons_succ]
        refine RD.h_any [12] (by kernel_rfl) (by simp) (RD.one_of ?_)
        refine h_panic 57 #[.pointer (some ⟨s, 0, none⟩), .int .i64 (tt : Int), .slice A11 (64 * zn) c11] rfl (by rfl) (by go_simp) (WR.out.mono ?_)
        rintro e w12 ⟨h0, F1, k1, f1, m1⟩
        have AMX := AM.out F w11 w12 B11.out m1 (fun b h => .inl h)
        have M12 : Mv N (Or2 F S) w w12 := (Mv.of HD.out.2.2.2.1 (BWC.out.trans (B11.out.mono BWC.out.size))).trans m1 (fun b h => .inl (.inl h))
        have F1S : ∀ b, F1 b → F b ∨ g3 < b := fun b h => (f1 b h).imp id (fun h => by have := B11.out.size; have := BC.out.size; have := HG3.out; omega)
        refine ⟨_, by rw [h0, EC.out], rfl, rfl, rfl, AMX.2.2.2, fun w9 hb => ?_⟩
        exact save_fin (cd := cw) HD.out.2.2.2.1 HD.out.2.2.2.2.1 k1 AMX.1 M12 F1S (fun x h => .inl h) HD.out.2.1 HD.out.2.2.1 (fun x h h2 => (F1S x h).elim (fun h => HD.out.1 x h h2) (fun h => by have := HD.out.2.2.1 x h2; omega)) hb _
end Go.Proofs.YtnoflgkjdibblaaGreatDoor.S20
