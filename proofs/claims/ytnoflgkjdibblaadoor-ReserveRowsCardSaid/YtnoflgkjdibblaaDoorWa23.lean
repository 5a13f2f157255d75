/-
  Texts put together: DsE, DsF, Ds7, DkM, SkA, SkB, Sk3. No statement is proved here.
-/
import Derived.Test.YtnoflgkjdibblaaDoorWa22
import Derived.Test.YtnoflgkjdibblaaDoorWa08
import Derived.Test.YtnoflgkjdibblaaDoorWa20
import Derived.Test.YtnoflgkjdibblaaDoorWa06
import Derived.Deep.RegionHeld3
import Derived.Test.YtnoflgkjdibblaaDoorWa21
import Derived.Test.YtnoflgkjdibblaaDoorWa09
import Derived.Test.YtnoflgkjdibblaaDoorWa05

/-
  A part of a sector is written over by what was pending: in plain words, and as the landed Up does it. No statement is proved here.
-/
namespace Go.Proofs.YtnoflgkjdibblaaDoor.S19
set_option linter.unusedSimpArgs false
set_option linter.unusedVariables false
set_option maxRecDepth 8192
open Go.RowKit

theorem tears_iff {c i : Nat} (hi : i < 64) : tears c i ↔ thF c ≤ i ∧ i < thT c := by
  unfold tears thF thT
  have hr : c % 4 = 0 ∨ c % 4 = 1 ∨ c % 4 = 2 ∨ c % 4 = 3 := by omega
  rcases hr with hr | hr | hr | hr <;> simp [hr] <;> omega
theorem torn_cut {c : Nat} (hc : c < 256) {old now : List UInt8} (lo : old.length = 64) (ln : now.length = 64) : old.take (thF c) ++ (now.drop (thF c)).take (thT c - thF c) ++ old.drop (thT c) = Dk.torn c old now := by
  obtain ⟨h1, h2⟩ := th_le hc
  rw [← tornP_full]
  apply List.ext_getElem (by simp [tornP, lo, ln]; omega)
  intro i a1 a2
  have hi : i < 64 := by simpa [tornP] using a2
  have e := tears_iff (c := c) hi
  have e2 : (tornP c old now 64)[i]'a2 = if tears c i then now.getD i 0 else old.getD i 0 := by simp [tornP, hi]
  refine Eq.trans ?_ e2.symm
  simp only [List.getElem_append, List.length_take, List.length_append, List.length_drop, lo, ln, List.getElem_take, List.getElem_drop]
  by_cases q1 : i < thF c
  · have q2 : ¬ tears c i := fun h => by have := e.1 h; omega
    have q3 : i < min (thF c) 64 := by omega
    have q4 : i < min (thF c) 64 + min (thT c - thF c) (64 - thF c) := by omega
    simp [q2, q3, q4, List.getD, lo, hi]
  · by_cases q2 : i < thT c
    · have q3 : tears c i := e.2 ⟨by omega, q2⟩
      have q4 : i < min (thF c) 64 + min (thT c - thF c) (64 - thF c) := by omega
      have q5 : ¬ i < min (thF c) 64 := by omega
      have q6 : thF c + (i - min (thF c) 64) = i := by omega
      simp [q3, q4, q5, q6, List.getD, ln, hi]
    · have q3 : ¬ tears c i := fun h => by have := e.1 h; omega
      have q4 : ¬ i < min (thF c) 64 + min (thT c - thF c) (64 - thF c) := by omega
      have q6 : thT c + (i - (min (thF c) 64 + min (thT c - thF c) (64 - thF c))) = i := by omega
      simp [q3, q4, q6, List.getD, lo, hi]
theorem copy_part (W : World) (ty : TypeId) (sb wb m f t : Nat) (z : Int) (T T' : TypeId) (s : List (List UInt8)) (b : List UInt8) (hs : Bk W sb T (rowsV s).toArray) (hw : Bk W wb T' (Value.int .i64 z :: bv b).toArray) (hr : ∀ x ∈ s, x.length = 64) (hb : b.length = 64) (hm : m < s.length) (h1 : f ≤ t) (h2 : t ≤ 64) :
    (Builtin.copy_ #[25, 25] ty #[.slice (some ⟨sb, m * 64 + f, none⟩) (t - f) (64 - f), .slice (some ⟨wb, 1 + f, none⟩) (t - f) (64 - f)]).run Tryd.prog W =
      .ok (goInt ((t - f : Nat) : Int)) (W.setRow sb (rowsV (s.set m ((s.getD m []).take f ++ (b.drop f).take (t - f) ++ (s.getD m []).drop t))).toArray) := by
  have hx := hr _ (getD_mem hm)
  have hl := rowsV_len hr
  have lc : (bv ((b.drop f).take (t - f))).length = t - f := by rw [bv_length, List.length_take, List.length_drop, hb]; omega
  have h := run_copy_row (P := Tryd.prog) W 25 25 ty 5 sb (m * 64 + f) (t - f) (64 - f) ⟨wb, 1 + f, none⟩ (t - f) (64 - f) (rowsV s).toArray T (bv ((b.drop f).take (t - f))) Tryd.underlying25 (by kernel_rfl) hs (by rw [lc]; simp) (fun j v hj => by
    have e : (⟨wb, 1 + f, none⟩ : Addr).add j = ⟨wb, 1 + f + j, none⟩ := by unfold Addr.add; split <;> simp_all
    have hj2 : j < t - f := by
      rcases Nat.lt_or_ge j (t - f) with h | h
      · exact h
      · rw [List.getElem?_eq_none (by omega)] at hj; cases hj
    rw [e, hw.cell, List.getElem?_toArray, show 1 + f + j = (f + j) + 1 by omega, List.getElem?_cons_succ]
    rw [bv_at _ j (by simp [hb]; omega)] at hj
    rw [bv_at _ (f + j) (by omega), ← hj]
    simp) (by simp [lc, hl]; omega) (bv_one _)
  rw [h, lc]
  congr 2
  have hL := take_rows hr m (Nat.le_of_lt hm)
  have e := rowsV_split hm
  rw [rowsV_set hm]
  generalize s.getD m [] = x at hx e ⊢
  simp only [List.toList_toArray, lc]
  rw [e]
  congr 1
  rw [show m * 64 + f = 64 * m + f by omega, show 64 * m + f + (t - f) = 64 * m + t by omega]
  generalize rowsV (s.take m) = L at hL ⊢
  generalize rowsV (s.drop (m + 1)) = R
  rw [List.append_assoc L (bv x) R, ← hL, List.take_length_add_append, List.drop_length_add_append, List.take_append_of_le_length (by rw [bv_length]; omega), List.drop_append_of_le_length (by rw [bv_length]; omega)]
  rw [show (bv x).take f = bv (x.take f) by simp [bv, List.map_take], show (bv x).drop t = bv (x.drop t) by simp [bv, List.map_drop]]
  simp [bv_append, List.append_assoc]
/-- What is pending lies in cells, one write behind the other. -/
theorem pend_range {w : World} {B : Nat} {v : Value} {p : List (Nat × List UInt8)} (h : w.ownsRow B 119 65 v p.length (pendV p)) (hp : ∀ q ∈ p, q.2.length = 64) {k : Nat} (hk : k < p.length) :
    ∃ b c, v = .slice (some ⟨b, 0, none⟩) p.length c ∧ w.rangeAt b (k * 65) (Value.int .i64 (p[k].1 : Int) :: bv p[k].2) := by
  rcases h.2 with ⟨_, h0⟩ | ⟨b, cap, cur, rfl, _⟩
  · omega
  · refine ⟨b, cap, rfl, fun j v hj => ?_⟩
    have hq := hp _ (List.getElem_mem hk)
    have hj2 : j < 65 := by
      have := (List.getElem?_eq_some_iff.1 hj).1
      simp [bv_length, hq] at this
      exact this
    rw [h.cellAt (k * 65 + j) (by
      have : k * 65 + 65 ≤ p.length * 65 := by rw [show k * 65 + 65 = (k + 1) * 65 by omega]; exact Nat.mul_le_mul_right 65 hk
      omega), pend_split hk, List.append_assoc, List.getElem?_append_right (by rw [take_pend hp k (Nat.le_of_lt hk)]; omega), take_pend hp k (Nat.le_of_lt hk), show k * 65 + j - 65 * k = j by omega, List.getElem?_append_left (by simp [bv_length, hq]; omega)]
    exact hj
/-- A sector that is sure has turned. -/
theorem In.sureSet {N : Nat} {w : World} {g : Nat} {sure now : List (List UInt8)} {pend : List (Nat × List UInt8)} {fails : List Int} {F : Nat → Prop} {V : KnV} (r : In N w g sure now pend fails F V) (s' : List (List UInt8)) :
    In N (w.setRow V.sb (rowsV s').toArray) g s' now pend fails F V := by
  have hs : (w.setRow V.sb (rowsV s').toArray).heap.size = w.heap.size := by simp [World.setRow]
  have hk : ∀ b, b ≠ V.sb → (w.setRow V.sb (rowsV s').toArray).heap[b]? = w.heap[b]? := fun b hb => setRow_other w V.sb b _ hb
  exact ⟨r.sure.row _, (hk _ r.d3.symm).trans r.now, own_keepH r.pend fun b hb _ => hk _ (r.dP b hb).2.1, r.fl.keep (by omega) fun a h1 h2 _ => hk _ (r.dF a h1 h2).2.1, r.few, r.mem, r.srt, r.fg, r.fs, r.fnn, r.fp, r.ff, fun b hb => by rw [hs]; exact r.gN b hb, r.d1, r.d2, r.d3, r.dP, r.dF⟩
end Go.Proofs.YtnoflgkjdibblaaDoor.S19

/-
  What the landed Up does. No statement is proved here.
-/
namespace Go.Proofs.YtnoflgkjdibblaaDoor.S19
set_option linter.unusedSimpArgs false
set_option linter.unusedVariables false
set_option maxRecDepth 8192
open Go.RowKit

/-- What holds while what is pending is gone through. -/
structure UpI (N : Nat) (w : World) (g kk : Nat) (D : Dk) (F : Nat → Prop) (V : KnV) (px p1 i1 : Nat) (A' : Option Addr) (n' c' : Nat) (ch : List UInt8) (A : Option Addr) (n c : Nat) (st : Int) (k : Nat) (X : World) : Prop where
  blk : Bk X g 72 (knA V kk D.cnt D.stop D.off)
  r : In N X g (Dk.tear ch 0 (D.pend.take k) D.sure) (Dk.laid D.pend D.sure) D.pend D.fails F V
  mv : Mv N F w X
  bx : Bk X px 70 #[.slice A n c, .int .i64 st]
  b1 : Bk X p1 25 #[.slice A' n' c']
  b2 : Bk X i1 3 #[.int .i64 (cntC n' k : Int)]
/-- What reads is written over by what is sure. -/
theorem In.upped {N : Nat} {w : World} {g : Nat} {sure now : List (List UInt8)} {pend : List (Nat × List UInt8)} {fails : List Int} {F : Nat → Prop} {V : KnV} (r : In N w g sure now pend fails F V) :
    In N (w.setRow V.nb (rowsV sure).toArray) g sure sure [] fails F { V with vP := .slice none 0 0 } := by
  have hs : (w.setRow V.nb (rowsV sure).toArray).heap.size = w.heap.size := by simp [World.setRow]
  have hk : ∀ b, b ≠ V.nb → (w.setRow V.nb (rowsV sure).toArray).heap[b]? = w.heap[b]? := fun b hb => setRow_other w V.nb b _ hb
  exact ⟨(hk _ r.d3).trans r.sure, r.now.row _, ⟨rfl, .inl ⟨rfl, rfl⟩⟩, r.fl.keep (by omega) fun a h1 h2 _ => hk _ (r.dF a h1 h2).2.2.1, r.few, r.mem, r.srt, r.fg, r.fs, r.fnn, fun b h => absurd h (by simp [Value.ownBlock]), r.ff, fun b hb => by rw [hs]; exact r.gN b hb, r.d1, r.d2, r.d3, fun b h => absurd h (by simp [Value.ownBlock]), fun a h1 h2 => ⟨(r.dF a h1 h2).1, (r.dF a h1 h2).2.1, (r.dF a h1 h2).2.2.1, by simp [Value.ownBlock]⟩⟩
theorem own_max {w : World} {B e sz n : Nat} {v : Value} {xs : List Value} (h : w.ownsRow B e sz v n xs) : n ≤ maxLen := by
  rcases h.2 with ⟨_, rfl⟩ | ⟨_, cap, _, _, _, _, h1, h2, _⟩
  · exact Nat.zero_le _
  · omega
end Go.Proofs.YtnoflgkjdibblaaDoor.S19

/-
  What the landed disk.New does. No statement is proved here.
-/
namespace Go.Proofs.YtnoflgkjdibblaaDoor.S19
set_option linter.unusedSimpArgs false
set_option linter.unusedVariables false
set_option maxRecDepth 8192
open Go.RowKit

theorem Tryd.infoSec : (Tryd.prog.info? 97).map (fun i => (i.zero, i.size, i.bytes)) = some (some (.agg (Array.replicate 64 (.int .u8 0))), 64, 64) := by kernel_rfl
theorem made_sectors (n : Nat) : madeCells (Value.agg (Array.replicate 64 (.int .u8 0))).cells (n * 64) = (rowsV (List.replicate n (List.replicate 64 0))).toArray := by
  rw [rowsV_zero]
  apply Array.ext'
  simp only [madeCells, Value.cells]
  rw [List.eq_replicate_iff]
  refine ⟨by simp; omega, fun b hb => ?_⟩
  simp at hb
  obtain ⟨x, hx, rfl⟩ := hb
  have : x % 64 < 64 := Nat.mod_lt _ (by decide)
  simp [this]
theorem run_make_sec (n : Nat) (hn : n ≤ 256) (w : World) : (Instr.makeSlice 66 (.int .i64 (n : Int)) (.int .i64 (n : Int))).run Tryd.prog w =
    .ok (.slice (some ⟨w.heap.size, 0, none⟩) n n) (w.alloc (.cells (rowsV (List.replicate n (List.replicate 64 0))).toArray 97)) := by
  obtain ⟨i0, hi, hz0, hz1, hz2⟩ := info_parts Tryd.infoSec
  have hr := run_makeSlice (P := Tryd.prog) (w := w) 66 97 i0 _ Tryd.underlying66 hi hz0 .i64 .i64 (n : Int) (n : Int) (by omega) (Int.le_refl _) (by rw [hz1]; simp; omega) (by rw [hz2]; omega) (by omega)
  simp only [Int.toNat_natCast] at hr
  rw [hz1, made_sectors] at hr
  exact hr
theorem new_fin (N : Nat) (w X : World) (k sb nb g g3 : Nat) (hN : N ≤ w.heap.size) (h1 : 1 ≤ k) (h2 : k ≤ 256) (hb : Below w.heap.size w X) (b1 : w.heap.size ≤ g3) (b2 : g3 < sb) (b3 : g3 < nb) (b4 : sb ≠ nb) (b5 : sb < g) (b6 : nb < g)
    (hs : Bk X sb 97 (rowsV (List.replicate k (List.replicate 64 0))).toArray) (hn : Bk X nb 97 (rowsV (List.replicate k (List.replicate 64 0))).toArray)
    (hg : Bk X g 72 #[.slice (some ⟨sb, 0, none⟩) k k, .slice (some ⟨nb, 0, none⟩) k k, .slice none 0 0, .int .i64 0, .slice none 0 0, .int .i64 0, .bool false]) :
    ∃ g' F, Ending.returned (Value.tuple #[.pointer (some ⟨g, 0, none⟩), .int .i64 0]) = .returned (.tuple #[.pointer (some ⟨g', 0, none⟩), .int .i64 0]) ∧ Kn N (X.setCell ⟨g3, 0, none⟩ (.int .i64 0)) g' (Dk.new k) F ∧ (∀ b, F b → w.heap.size ≤ b) ∧ Below w.heap.size w (X.setCell ⟨g3, 0, none⟩ (.int .i64 0)) := by
  have g1 := hg.lt
  refine ⟨g, fun b => b = g ∨ b = sb ∨ b = nb, rfl, ⟨Dk.new_ok h1 h2, ⟨sb, nb, .slice none 0 0, none, 0, 0, []⟩, ?_, ?_⟩, ?_, hb.setCell b1 _⟩
  · have e : (Dk.new k).sure.length = k := by simp [Dk.new]
    rw [e]
    exact hg.far (show g ≠ g3 by omega) _
  · refine ⟨hs.far (show sb ≠ g3 by omega) _, hn.far (show nb ≠ g3 by omega) _, ⟨rfl, .inl ⟨rfl, rfl⟩⟩, RI.nil_ _ _, Nat.zero_le _, fun z => Iff.rfl, List.Pairwise.nil, .inl rfl, .inr (.inl rfl), .inr (.inr rfl), fun b h => absurd h (by simp [Value.ownBlock]), fun a h => absurd h (Nat.lt_irrefl 0), fun b h => ?_, (show g ≠ sb by omega), (show g ≠ nb by omega), b4, fun b h => absurd h (by simp [Value.ownBlock]), fun a h => absurd h (Nat.lt_irrefl 0)⟩
    have : (X.setCell ⟨g3, 0, none⟩ (.int .i64 0)).heap.size = X.heap.size := by simp
    rw [this]
    omega
  · intro b h
    omega
set_option maxHeartbeats 4000000 in
theorem new_any (N : Nat) (w : World) (k : Nat) (hN : N ≤ w.heap.size) (h1 : 1 ≤ k) (h2 : k ≤ 256) :
    Calls Tryd.prog 13 #[.int .i64 (k : Int)] w fun e w' => ∃ g F, e = .returned (.tuple #[.pointer (some ⟨g, 0, none⟩), .int .i64 0]) ∧ Kn N w' g (Dk.new k) F ∧ (∀ b, F b → w.heap.size ≤ b) ∧ Below w.heap.size w w' := by
  have hmf : ∀ (fn : Fn) (first cap : Array Value) (w : World), (Instr.makeFunc fn first cap).run Tryd.prog w = .ok (.func fn first cap) w := fun _ _ _ _ => rfl
  have HN := Lib.hid (fun X => LV.need_yes 1 X)
  have u1 : (1 : Int) ≤ (k : Int) := by omega
  have u2 : (k : Int) ≤ 256 := by omega
  have hmk := run_make_sec k h2
  obtain ⟨Z, hZ⟩ : ∃ Z, Z = (rowsV (List.replicate k (List.replicate 64 0))).toArray := ⟨_, rfl⟩
  rw [← hZ] at hmk
  have HZ := Lib.hid hZ
  clear hZ
  go_enter_defers Tryd.func13, Tryd.ntmps13
  go_upto_region 3 with (go_at_call 32; ((with_reducible refine (HN.out _).mono ?_); rintro e w1 ⟨rfl, rfl⟩))
  (go_region_held3 (fun _ => True) (trivial) (fail))
  all_goals
    go_wp2_with (fail)
    refine dnew_ret rfl (y := 0) (Bk.drew (((Bk.newAt _ _ _ w.heap.size rfl).alloc _).alloc _ |>.alloc _)) rfl ?_
    first
      | exact new_fin N w _ k (w.heap.size + 1) (w.heap.size + 1 + 1) (w.heap.size + 1 + 1 + 1) w.heap.size hN h1 h2 (((((Below.refl _ _).alloc (Nat.le_refl _) _).alloc (by simp) _).alloc (by simp; omega) _).alloc (by simp; omega) _).drew (Nat.le_refl _) (by omega) (by omega) (by omega) (by omega) (by omega) (by rw [← HZ.out]; exact Bk.drew (((Bk.newAt _ _ _ _ (by simp)).alloc _).alloc _)) (by rw [← HZ.out]; exact Bk.drew ((Bk.newAt _ _ _ _ (by simp)).alloc _)) (Bk.drew (Bk.newAt _ _ _ _ (by simp)))
      | exact new_fin N w _ k (w.heap.size + 1 + 1) (w.heap.size + 1) (w.heap.size + 1 + 1 + 1) w.heap.size hN h1 h2 (((((Below.refl _ _).alloc (Nat.le_refl _) _).alloc (by simp) _).alloc (by simp; omega) _).alloc (by simp; omega) _).drew (Nat.le_refl _) (by omega) (by omega) (by omega) (by omega) (by omega) (by rw [← HZ.out]; exact Bk.drew ((Bk.newAt _ _ _ _ (by simp)).alloc _)) (by rw [← HZ.out]; exact Bk.drew (((Bk.newAt _ _ _ _ (by simp)).alloc _).alloc _)) (Bk.drew (Bk.newAt _ _ _ _ (by simp)))
set_option maxHeartbeats 1000000 in
theorem newNot_any (w : World) (k : Int) (hk : k < 1 ∨ 256 < k) :
    Calls Tryd.prog 13 #[.int .i64 k] w fun e w' => ∃ v, e = .returned (.tuple #[v, .int .i64 1]) ∧ Below w.heap.size w w' := by
  have hmf : ∀ (fn : Fn) (first cap : Array Value) (w : World), (Instr.makeFunc fn first cap).run Tryd.prog w = .ok (.func fn first cap) w := fun _ _ _ _ => rfl
  have HN := Lib.hid (fun X => LV.need_no 1 X)
  by_cases u1 : 1 ≤ k
  · have u2 : ¬ k ≤ 256 := by omega
    clear hk
    go_enter_defers Tryd.func13, Tryd.ntmps13
    go_wp2_with (go_at_call 32; ((with_reducible refine (HN.out _).mono ?_); rintro e w1 ⟨rfl, rfl⟩))
    exact dnew_bad rfl (y := 0) (Bk.newAt _ _ _ w.heap.size rfl) rfl fun w1 hb => ⟨_, rfl, (((Below.refl _ _).alloc (Nat.le_refl _) _).trans (hb.mono (by simp))).setCell (Nat.le_refl _) _⟩
  · clear hk
    go_enter_defers Tryd.func13, Tryd.ntmps13
    go_wp2_with (go_at_call 32; ((with_reducible refine (HN.out _).mono ?_); rintro e w1 ⟨rfl, rfl⟩))
    exact dnew_bad rfl (y := 0) (Bk.newAt _ _ _ w.heap.size rfl) rfl fun w1 hb => ⟨_, rfl, (((Below.refl _ _).alloc (Nat.le_refl _) _).trans (hb.mono (by simp))).setCell (Nat.le_refl _) _⟩
end Go.Proofs.YtnoflgkjdibblaaDoor.S19

/-
  The contracts of the landed package disk as one.
-/
namespace Go.Proofs.YtnoflgkjdibblaaDoor.S19
open Go.RowKit
/-- What the calls of the landed disk do. -/
def D0 : DC where
  ok := fun _ => True
  bel := fun _ _ => trivial
  Is := Kn
  okD := fun t => t.ok
  lt := fun t => t.lt
  keep := fun t hs hk => t.keep hs fun b hF hlt => hk b (.inr hF) hlt
  new := fun N w k _ hN h1 h2 => new_any N w k hN h1 h2
  newNot := fun w k _ hk _ _ => newNot_any w k hk
  read := fun N w g D F i _ t => read_any N w g D F i t
  write := fun N w g D F i A n c b _ t hr hap hc => write_any N w g D F i A n c b t hr hap hc
  flush := fun N w g D F _ t hc => flush_any N w g D F t hc
  stop := fun N w g D F _ t => stop_any N w g D F t
  sure := fun N w g D F _ t => sure_any N w g D F t
  count := fun N w g D F _ t => count_any N w g D F t
end Go.Proofs.YtnoflgkjdibblaaDoor.S19

/-
  What the landed slots.New does. No statement is proved here.
-/
namespace Go.Proofs.YtnoflgkjdibblaaDoor.S20
set_option linter.unusedSimpArgs false
set_option linter.unusedVariables false
set_option maxRecDepth 8192
open Go.RowKit S19

theorem snew_fin (N : Nat) (w w1 X : World) (g g3 s : Nat) (D : Dk) (F F1 : Nat → Prop) (first n : Nat) (hN : N ≤ w.heap.size) (hg3 : w.heap.size = g3) (k1 : Kn N w1 g D F1) (f1 : ∀ b, F1 b → F b ∨ g3 + 1 ≤ b) (m1 : Mv N F w w1) (hF : ¬ F g3) (hs : w1.heap.size = s)
    (hX : Below w1.heap.size w1 X) (hK : Bk X s 80 #[.pointer (some ⟨g, 0, none⟩), .int .i64 (first : Int), .int .i64 (n : Int), .int .u64 0, .slice none 0 0, .int .i64 0]) (h3 : g3 < w1.heap.size) :
    ∃ s' S F', Ending.returned (Value.tuple #[.pointer (some ⟨s, 0, none⟩), .int .i64 0]) = .returned (.tuple #[.pointer (some ⟨s', 0, none⟩), .int .i64 0]) ∧ Sz N (X.setCell ⟨g3, 0, none⟩ (.int .i64 0)) s' g (Sl.new first n) S ∧ Kn N (X.setCell ⟨g3, 0, none⟩ (.int .i64 0)) g D F' ∧ (∀ b, S b → w.heap.size ≤ b) ∧ (∀ b, F' b → F b ∨ w.heap.size ≤ b) ∧ (∀ b, F' b → ¬ S b) ∧ Mv N F w (X.setCell ⟨g3, 0, none⟩ (.int .i64 0)) := by
  have hsz := m1.size
  have h31 : ¬ F1 g3 := fun h => (f1 _ h).elim hF (by omega)
  refine ⟨s, fun b => b = s, F1, rfl, ⟨⟨none, 0, hK.far (show s ≠ g3 by omega) _, Rd.nil_ _, fun a h => absurd h (by show ¬ 0 < 0; omega)⟩, rfl, fun b e => ?_, by show 0 ≤ _; omega⟩, ?_, fun b e => ?_, fun b e => (f1 b e).imp id (by omega), fun b h e => ?_, ?_⟩
  · subst e
    exact ⟨by omega, by simpa using hK.lt⟩
  · exact (k1.below hX).keep (by simp) fun b hb _ => Below.heap_setCell _ ⟨g3, 0, none⟩ _ b fun e => h31 (by rw [e] at hb; exact hb)
  · subst e; omega
  · have := (k1.lt b h).2
    omega
  · have m2 : Mv N F w1 X := Mv.of (by omega) hX
    have m3 : Mv N (fun b => b = g3) X (X.setCell ⟨g3, 0, none⟩ (.int .i64 0)) := ⟨(Below.refl _ _).setCell (show N ≤ (⟨g3, 0, none⟩ : Addr).block from by show N ≤ g3; omega) _, fun b _ h => Below.heap_setCell _ ⟨g3, 0, none⟩ _ b h⟩
    exact (m1.trans m2 fun b h => .inl h).trans m3 fun b h => .inr (by omega)
set_option maxHeartbeats 4000000 in
theorem snew_any (N : Nat) (w : World) (g : Nat) (D : Dk) (F : Nat → Prop) (first n : Nat) (tk : Kn N w g D F) (hm : may D.sure.length first n = true) : Calls Tryd.prog 14 #[.pointer (some ⟨g, 0, none⟩), .int .i64 (first : Int), .int .i64 (n : Int)] w fun e w' =>
    ∃ s S F', e = .returned (.tuple #[.pointer (some ⟨s, 0, none⟩), .int .i64 0]) ∧ Sz N w' s g (Sl.new first n) S ∧ Kn N w' g D F' ∧ (∀ b, S b → w.heap.size ≤ b) ∧ (∀ b, F' b → F b ∨ w.heap.size ≤ b) ∧ (∀ b, F' b → ¬ S b) ∧ Mv N F w w' := by
  have hmf : ∀ (fn : Fn) (first cap : Array Value) (w : World), (Instr.makeFunc fn first cap).run Tryd.prog w = .ok (.func fn first cap) w := fun _ _ _ _ => rfl
  have HN := Lib.hid (fun X => LV.need_yes 1 X)
  have hm' := of_decide_eq_true hm
  have hmost := tk.ok.most
  obtain ⟨g3, hg3⟩ : ∃ g3, w.heap.size = g3 := ⟨_, rfl⟩
  obtain ⟨w0, hw0⟩ : ∃ w0, w.alloc (.cells #[.int .i64 0] 27) = w0 := ⟨_, rfl⟩
  have B0 := Lib.hid (show Below w.heap.size w w0 by rw [← hw0]; exact (Below.refl _ _).alloc (Nat.le_refl _) _)
  have S0 := Lib.hid (show w0.heap.size = g3 + 1 by rw [← hw0, ← hg3]; simp)
  have K3 := Lib.hid (show Bk w0 g3 27 #[.int .i64 0] by rw [← hw0]; exact Bk.newAt _ _ _ _ hg3)
  have hNN : N ≤ w.heap.size := by
    obtain ⟨ok, V, hb, r⟩ := tk
    have := r.gN g r.fg
    omega
  have hF3 : ¬ F g3 := fun h => by have := (tk.lt _ h).2; omega
  obtain ⟨k, hk⟩ : ∃ k, k = D.sure.length := ⟨_, rfl⟩
  have SU := Lib.hid (show Calls Tryd.prog 34 #[.pointer (some ⟨g, 0, none⟩)] w0 fun e w' => ∃ A c F1, e = .returned (.slice A k c) ∧ Kn N w' g D F1 ∧ (∀ b, F1 b → F b ∨ g3 + 1 ≤ b) ∧ Mv N F w0 w' from (sure_any N w0 g D F (tk.below B0.out)).mono fun e w' ⟨A, c, F', h1, _, h2, h3, h4⟩ => ⟨A, c, F', by rw [hk]; exact h1, h2, fun b hb => (h3 b hb).imp id (fun h => by rw [S0.out] at h; exact h), h4⟩)
  obtain ⟨p, hp⟩ : ∃ p, p = 2 * n := ⟨_, rfl⟩
  obtain ⟨q, hq⟩ : ∃ q, q = k - p := ⟨_, rfl⟩
  have u1 : (1 : Int) ≤ (n : Int) := by omega
  have u2 : (n : Int) ≤ 8 := by omega
  have p1 : (2 : Int) * (n : Int) = (p : Int) := by omega
  have q1 : (k : Int) - (p : Int) = (q : Int) := by omega
  have u3 : (first : Int) ≤ (q : Int) := by omega
  have bp : p ≤ 1000000 := by omega
  have bq : q ≤ 1000000 := by omega
  have z1 : wrap64 (p : Int) = (p : Int) := (wrap_nat p bp).1
  have z2 : wrap64 (q : Int) = (q : Int) := (wrap_nat q bq).1
  have HG := Lib.hid hg3
  have FIN := Lib.hid (fun w1 X s F1 k1 f1 m1 hs hX hK h3 => snew_fin N w w1 X g g3 s D F F1 first n hNN hg3 k1 f1 m1 hF3 hs hX hK h3)
  have HNN := Lib.hid hNN
  have HF3 := Lib.hid hF3
  clear hm hm' hmost hk hp hq bp bq tk hNN hF3
  go_enter_defers Tryd.func14, Tryd.ntmps14
  go_wp2_with (first
    | (go_at_call 32; ((with_reducible refine (HN.out _).mono ?_); rintro e w1 ⟨rfl, rfl⟩))
    | (go_at_call 34; ((with_reducible refine SU.out.mono ?_); rintro e w2 ⟨A2, c2, F2, rfl, k2, f2, m2⟩; have K2 := Lib.hid k2; have F2S := Lib.hid f2; have M2 := Lib.hid m2; have K32 := Lib.hid (m2.bk K3.out HF3.out); have M02 := Lib.hid (show Mv N F w w2 from (Mv.of HNN.out B0.out).trans m2 (fun b h => .inl h)); have L2 := Lib.hid (show g3 < w2.heap.size from K32.out.lt); obtain ⟨s, hs⟩ : ∃ s, w2.heap.size = s := ⟨_, rfl⟩; obtain ⟨w3, hw3⟩ : ∃ w3, w2.alloc (.cells #[.pointer (some ⟨g, 0, none⟩), .int .i64 (first : Int), .int .i64 (n : Int), .int .u64 0, .slice none 0 0, .int .i64 0] 80) = w3 := ⟨_, rfl⟩; have K4 := Lib.hid (show Bk w3 s 80 #[.pointer (some ⟨g, 0, none⟩), .int .i64 (first : Int), .int .i64 (n : Int), .int .u64 0, .slice none 0 0, .int .i64 0] by rw [← hw3]; exact Bk.newAt _ _ _ _ hs); have B4 := Lib.hid (show Below w2.heap.size w2 w3 by rw [← hw3]; exact (Below.refl _ _).alloc (Nat.le_refl _) _); have HS := Lib.hid hs; have K34 := Lib.hid (K32.out.below B4.out K32.out.lt); have i0 := cell_of_one K34.out; have i1 := free_of_one K34.out; clear k2 f2 m2)))
  refine snew_ret rfl (y := 0) (K34.out.put 0 _) rfl ?_
  have hX : (w3.setCell ⟨g3, 0, none⟩ (.int .i64 0)).setCell ⟨g3, 0, none⟩ (.int .i64 0) = w3.setCell ⟨g3, 0, none⟩ (.int .i64 0) := set_set _ _ _ _ _
  rw [hX]
  exact FIN.out w2 w3 s F2 K2.out F2S.out M02.out HS.out B4.out K4.out L2.out
end Go.Proofs.YtnoflgkjdibblaaDoor.S20

/-
  What the landed slots.New does where there may be no slots. No statement is proved here.
-/
namespace Go.Proofs.YtnoflgkjdibblaaDoor.S20
set_option linter.unusedSimpArgs false
set_option linter.unusedVariables false
set_option maxRecDepth 8192
open Go.RowKit S19

theorem snot_fin (N : Nat) (w w1 X : World) (g g3 : Nat) (D : Dk) (F F1 : Nat → Prop) (hN : N ≤ w.heap.size) (hg3 : w.heap.size = g3) (k1 : Kn N w1 g D F1) (f1 : ∀ b, F1 b → F b ∨ g3 + 1 ≤ b) (m1 : Mv N F w w1) (hF : ¬ F g3) (hX : Below w1.heap.size w1 X) :
    ∃ F', Kn N (X.setCell ⟨g3, 0, none⟩ (.int .i64 1)) g D F' ∧ (∀ b, F' b → F b ∨ w.heap.size ≤ b) ∧ Mv N F w (X.setCell ⟨g3, 0, none⟩ (.int .i64 1)) := by
  have hsz := m1.size
  have h31 : ¬ F1 g3 := fun h => (f1 _ h).elim hF (by omega)
  refine ⟨F1, ?_, fun b e => (f1 b e).imp id (by omega), ?_⟩
  · exact (k1.below hX).keep (by simp) fun b hb _ => Below.heap_setCell _ ⟨g3, 0, none⟩ _ b fun e => h31 (by rw [e] at hb; exact hb)
  · have m2 : Mv N F w1 X := Mv.of (by omega) hX
    have m3 : Mv N (fun b => b = g3) X (X.setCell ⟨g3, 0, none⟩ (.int .i64 1)) := ⟨(Below.refl _ _).setCell (show N ≤ (⟨g3, 0, none⟩ : Addr).block from by show N ≤ g3; omega) _, fun b _ h => Below.heap_setCell _ ⟨g3, 0, none⟩ _ b h⟩
    exact (m1.trans m2 fun b h => .inl h).trans m3 fun b h => .inr (by omega)
set_option maxHeartbeats 4000000 in
theorem snewNot_any (N : Nat) (w : World) (g : Nat) (D : Dk) (F : Nat → Prop) (first n : Int) (tk : Kn N w g D F) (hm : may D.sure.length first n = false) : Calls Tryd.prog 14 #[.pointer (some ⟨g, 0, none⟩), .int .i64 first, .int .i64 n] w fun e w' =>
    e = .returned (.tuple #[.pointer none, .int .i64 1]) ∧ ∃ F', Kn N w' g D F' ∧ (∀ b, F' b → F b ∨ w.heap.size ≤ b) ∧ Mv N F w w' := by
  have hmf : ∀ (fn : Fn) (first cap : Array Value) (w : World), (Instr.makeFunc fn first cap).run Tryd.prog w = .ok (.func fn first cap) w := fun _ _ _ _ => rfl
  have HY := Lib.hid (fun X => LV.need_yes 1 X)
  have HN := Lib.hid (fun X => LV.need_no 1 X)
  have hm' := of_decide_eq_false hm
  have hmost := tk.ok.most
  obtain ⟨g3, hg3⟩ : ∃ g3, w.heap.size = g3 := ⟨_, rfl⟩
  obtain ⟨w0, hw0⟩ : ∃ w0, w.alloc (.cells #[.int .i64 0] 27) = w0 := ⟨_, rfl⟩
  have B0 := Lib.hid (show Below w.heap.size w w0 by rw [← hw0]; exact (Below.refl _ _).alloc (Nat.le_refl _) _)
  have S0 := Lib.hid (show w0.heap.size = g3 + 1 by rw [← hw0, ← hg3]; simp)
  have K3 := Lib.hid (show Bk w0 g3 27 #[.int .i64 0] by rw [← hw0]; exact Bk.newAt _ _ _ _ hg3)
  have hNN : N ≤ w.heap.size := by
    obtain ⟨ok, V, hb, r⟩ := tk
    have := r.gN g r.fg
    omega
  have hF3 : ¬ F g3 := fun h => by have := (tk.lt _ h).2; omega
  obtain ⟨k, hk⟩ : ∃ k, k = D.sure.length := ⟨_, rfl⟩
  have SU := Lib.hid (show Calls Tryd.prog 34 #[.pointer (some ⟨g, 0, none⟩)] w0 fun e w' => ∃ A c F1, e = .returned (.slice A k c) ∧ Kn N w' g D F1 ∧ (∀ b, F1 b → F b ∨ g3 + 1 ≤ b) ∧ Mv N F w0 w' from (sure_any N w0 g D F (tk.below B0.out)).mono fun e w' ⟨A, c, F', h1, _, h2, h3, h4⟩ => ⟨A, c, F', by rw [hk]; exact h1, h2, fun b hb => (h3 b hb).imp id (fun h => by rw [S0.out] at h; exact h), h4⟩)
  have M0 := Lib.hid (show Mv N F w w0 from Mv.of hNN B0.out)
  have FIN := Lib.hid (fun w1 F1 k1 f1 m1 X hX => snot_fin N w w1 X g g3 D F F1 hNN hg3 k1 f1 m1 hF3 hX)
  have F0 := Lib.hid (fun X hX => FIN.out w0 F (tk.below B0.out) (fun b h => .inl h) M0.out X hX)
  have HF3 := Lib.hid hF3
  by_cases u1 : 1 ≤ n
  · by_cases u2 : n ≤ 8
    · by_cases u3 : 0 ≤ first
      · obtain ⟨nn, hnn⟩ : ∃ nn : Nat, n = (nn : Int) := ⟨n.toNat, by omega⟩
        subst hnn
        obtain ⟨p, hp⟩ : ∃ p, p = 2 * nn := ⟨_, rfl⟩
        have p1 : (2 : Int) * (nn : Int) = (p : Int) := by omega
        have bp : p ≤ 1000000 := by omega
        obtain ⟨q, hq⟩ : ∃ q : Int, q = (k : Int) - (p : Int) := ⟨_, rfl⟩
        have u4 : ¬ first ≤ q := by omega
        have u5 : decide (first ≤ q) = false := decide_eq_false u4
        have bq : -1000 ≤ q ∧ q ≤ 1000 := by omega
        have q1 : (k : Int) - (p : Int) = q := hq.symm
        have z1 : wrap64 (p : Int) = (p : Int) := (wrap_nat p bp).1
        have z2 : wrap64 q = q := by unfold wrap64; omega
        clear hp bp hq bq
        clear hm hm' hmost hk tk hNN hF3
        go_enter_defers Tryd.func14, Tryd.ntmps14
        go_wp2_with (first
          | (go_at_call 32; ((with_reducible refine (HY.out _).mono ?_); rintro e w1 ⟨rfl, rfl⟩))
          | (go_at_call 32; ((with_reducible refine (HN.out _).mono ?_); rintro e w1 ⟨rfl, rfl⟩))
          | (go_at_call 34; ((with_reducible refine SU.out.mono ?_); rintro e w2 ⟨A2, c2, F2, rfl, k2, f2, m2⟩; have K2 := Lib.hid k2; have F2S := Lib.hid f2; have M2 := Lib.hid m2; have K32 := Lib.hid (m2.bk K3.out HF3.out); have M02 := Lib.hid (show Mv N F w w2 from M0.out.trans m2 (fun b h => .inl h)); clear k2 f2 m2)))
        refine snew_bad rfl (y := 0) K32.out rfl fun w1 hb => ?_
        exact ⟨rfl, FIN.out w2 F2 K2.out F2S.out M02.out w1 hb⟩
      · have u4 : ¬ 0 ≤ first := u3
        clear hm hm' hmost hk tk hNN hF3
        go_enter_defers Tryd.func14, Tryd.ntmps14
        go_wp2_with (first
          | (go_at_call 32; ((with_reducible refine (HY.out _).mono ?_); rintro e w1 ⟨rfl, rfl⟩))
          | (go_at_call 32; ((with_reducible refine (HN.out _).mono ?_); rintro e w1 ⟨rfl, rfl⟩)))
        refine snew_bad rfl (y := 0) K3.out rfl fun w1 hb => ?_
        exact ⟨rfl, F0.out w1 hb⟩
    · clear hm hm' hmost hk tk hNN hF3
      go_enter_defers Tryd.func14, Tryd.ntmps14
      go_wp2_with (first
        | (go_at_call 32; ((with_reducible refine (HY.out _).mono ?_); rintro e w1 ⟨rfl, rfl⟩))
        | (go_at_call 32; ((with_reducible refine (HN.out _).mono ?_); rintro e w1 ⟨rfl, rfl⟩)))
      refine snew_bad rfl (y := 0) K3.out rfl fun w1 hb => ?_
      exact ⟨rfl, F0.out w1 hb⟩
  · clear hm hm' hmost hk tk hNN hF3
    go_enter_defers Tryd.func14, Tryd.ntmps14
    go_wp2_with (first
      | (go_at_call 32; ((with_reducible refine (HY.out _).mono ?_); rintro e w1 ⟨rfl, rfl⟩))
      | (go_at_call 32; ((with_reducible refine (HN.out _).mono ?_); rintro e w1 ⟨rfl, rfl⟩)))
    refine snew_bad rfl (y := 0) K3.out rfl fun w1 hb => ?_
    exact ⟨rfl, F0.out w1 hb⟩
end Go.Proofs.YtnoflgkjdibblaaDoor.S20

/-
  The landed slots: a record as bytes. No statement is proved here.
-/
namespace Go.Proofs.YtnoflgkjdibblaaDoor.S20
set_option linter.unusedSimpArgs false
set_option linter.unusedVariables false
set_option maxRecDepth 8192
open Go.RowKit S19

theorem RdBs.built2To (w : World) (b : Nat) (hb : w.heap.size = b) (T : TypeId) {A A' : Option Addr} {n c n' c' : Nat} {xs ys : List UInt8} (h : Rd w A n c xs) (h' : Rd w A' n' c' ys) :
    RdBs (w.alloc (.cells #[.slice A n c, .slice A' n' c'] T)) (some ⟨b, 0, none⟩) 2 2 [xs, ys] := by
  subst hb
  exact RdBs.built2 w T h h'
theorem RdBs.built1To (w : World) (b : Nat) (hb : w.heap.size = b) (T : TypeId) {A : Option Addr} {n c : Nat} {xs : List UInt8} (h : Rd w A n c xs) :
    RdBs (w.alloc (.cells #[.slice A n c] T)) (some ⟨b, 0, none⟩) 1 1 [xs] := by
  subst hb
  exact RdBs.built1 w T h
theorem full_flat (num : Nat) (b : List UInt8) : [headB num b, (S2.sum (headB num b)).take 16].flatten = fullB num b := by simp [fullB]
theorem rec_flat (num : Nat) (b : List UInt8) (n : Nat) : [fullB num b, List.replicate (64 * n - (28 + b.length)) (0 : UInt8)].flatten = recB num b n := by simp [recB]
theorem wrap_u (m : Nat) (h : m ≤ 1000000) : IntKind.u64.wrap (m : Int) = (m : Int) := by
  rw [IntKind.wrap_u64]
  omega
set_option maxHeartbeats 4000000 in
theorem lay_any (num : Nat) (hnum : num < 18446744073709551616) (A : Option Addr) (nb c : Nat) (b : List UInt8) (n : Nat) (w : World) (hk : S2.GOk w) (hr : Rd w A nb c b) (hn : n ≤ 100) (hl : 28 + nb ≤ 64 * n) :
    Calls Tryd.prog 54 #[.agg #[.int .u64 (num : Int), .slice A nb c], .int .i64 (n : Int)] w (New w.heap.size w (recB num b n)) := by
  obtain ⟨x1, hx1⟩ : ∃ x1, x1 = putL num 8 := ⟨_, rfl⟩
  obtain ⟨x2, hx2⟩ : ∃ x2, x2 = putL nb 4 := ⟨_, rfl⟩
  obtain ⟨hd, hhd⟩ : ∃ hd, hd = headB num b := ⟨_, rfl⟩
  obtain ⟨sm, hsm⟩ : ∃ sm, sm = S2.sum hd := ⟨_, rfl⟩
  obtain ⟨fu, hfu⟩ : ∃ fu, fu = fullB num b := ⟨_, rfl⟩
  obtain ⟨z, hz⟩ : ∃ z, z = 64 * n - (28 + nb) := ⟨_, rfl⟩
  obtain ⟨zs, hzs⟩ : ∃ zs, zs = List.replicate z (0 : UInt8) := ⟨_, rfl⟩
  have hbl := hr.len
  have HFL := Lib.hid (show [x1, x2, b].flatten = hd by rw [hx1, hx2, hhd, ← hbl]; exact head_flat num b)
  have HHL := Lib.hid (show hd.length = 12 + nb by rw [hhd, headB_len, hbl])
  have HSM := Lib.hid (show sm.length = 32 by rw [hsm]; exact S2.sum_length _)
  have HFU := Lib.hid (show [hd, sm.take 16].flatten = fu by rw [hsm, hhd, hfu]; exact full_flat num b)
  have HUL := Lib.hid (show fu.length = 28 + nb by rw [hfu, fullB_len, hbl])
  have HRE := Lib.hid (show [fu, zs].flatten = recB num b n by rw [hzs, hz, hfu, ← hbl]; exact rec_flat num b n)
  have HRL := Lib.hid (show (recB num b n).length ≤ 10000 by rw [recB_len _ _ _ (by omega)]; omega)
  have P8 := Lib.hid (show ∀ X, Calls Tryd.prog 58 #[.int .u64 (num : Int), .int .i64 8] X (New X.heap.size X x1) from fun X => by rw [hx1]; exact put_any num 8 X (by omega) hnum)
  have P4 := Lib.hid (show ∀ X, Calls Tryd.prog 58 #[.int .u64 (nb : Int), .int .i64 4] X (New X.heap.size X x2) from fun X => by rw [hx2]; exact put_any nb 4 X (by omega) (by omega))
  have FI := Lib.hid (show ∀ X, Calls Tryd.prog 40 #[.int .u8 0, .int .i64 (z : Int)] X (New X.heap.size X zs) from fun X => by rw [hzs]; exact fill_any 0 z X (by omega))
  have ON := Lib.hid (show ∀ X A c, Below w.heap.size w X → Rd X A (12 + nb) c hd → Calls Tryd.prog 69 #[.slice A (12 + nb) c] X (New X.heap.size X sm) from fun X A c hX h => by rw [hsm]; exact S2.one_any A (12 + nb) c hd X h (hk.below (Nat.le_refl _) hX) (by omega))
  obtain ⟨q, hq⟩ : ∃ q, q = 64 * n := ⟨_, rfl⟩
  have AR := Lib.hid (show ∀ X, Calls Tryd.prog 62 #[.int .i64 (n : Int)] X fun e w' => e = .returned (.int .i64 (q : Int)) ∧ X = w' from fun X => by rw [hq]; exact area_any n (by omega) X)
  obtain ⟨m, hm⟩ : ∃ m, m = 28 + nb := ⟨_, rfl⟩
  have b1 : nb ≤ 1000000 := by omega
  have b2 : z ≤ 1000000 := by omega
  have HNB := Lib.hid (show nb ≤ 6400 by omega)
  have d1 : (q : Int) - (m : Int) = (z : Int) := by omega
  have d2 : wrap64 ((q : Int) - (m : Int)) = (z : Int) := by rw [d1]; exact (wrap_nat z b2).1
  have d3 : wrap64 (z : Int) = (z : Int) := (wrap_nat z b2).1
  have HM := Lib.hid hm
  have hnb : wrap64 (nb : Int) = (nb : Int) := (wrap_nat nb b1).1
  have hnb2 : IntKind.u64.wrap (nb : Int) = (nb : Int) := wrap_u nb b1
  obtain ⟨g, hg⟩ : ∃ g, w.heap.size = g := ⟨_, rfl⟩
  obtain ⟨w0, hw0⟩ : ∃ w0, w.alloc (.cells #[.int .u64 (num : Int), .slice A nb c] 76) = w0 := ⟨_, rfl⟩
  have K0 := Lib.hid (show Bk w0 g 76 #[.int .u64 (num : Int), .slice A nb c] by rw [← hw0]; exact Bk.newAt _ _ _ _ hg)
  have B0 := Lib.hid (show Below w.heap.size w w0 by rw [← hw0]; exact (Below.refl _ _).alloc (Nat.le_refl _) _)
  have HR := Lib.hid hr
  have HG := Lib.hid hg
  have c0 : w0.cell? ⟨g, 0, none⟩ = some (.int .u64 (num : Int)) := K0.out.cell 0
  have c1 : w0.cell? ⟨g, 1, none⟩ = some (.slice A nb c) := K0.out.cell 1
  have GD := Lib.hid (Below.refl w0.heap.size w0).drew
  have KX := Lib.hid (show ∀ X, Below w0.heap.size w0 X → X.cell? ⟨g, 0, none⟩ = some (.int .u64 (num : Int)) ∧ X.cell? ⟨g, 1, none⟩ = some (.slice A nb c) from fun X hX => ⟨(K0.out.below hX K0.out.lt).cell 0, (K0.out.below hX K0.out.lt).cell 1⟩)
  clear hx1 hx2 hhd hsm hfu hz hzs hbl hr hnum hq hl hn hm hk
  go_enter Tryd.func54, Tryd.ntmps54
  go_upto_region 1 with (fail)
  clear hw0 hg c0 c1
  (go_region_held3 (fun X => X.cell? ⟨g, 0, none⟩ = some (.int .u64 (num : Int)) ∧ X.cell? ⟨g, 1, none⟩ = some (.slice A nb c)) (first
    | exact KX.out _ B3.out
    | exact KX.out _ (B2.out.alloc B2.out.size _)
    | exact KX.out _ B2.out
    | exact KX.out _ B1.out
    | exact KX.out _ GD.out) (first
    | (go_at_call 58; ((with_reducible refine (P8.out _).mono ?_); rintro e w1 ⟨A1, n1, c1, rfl, o1, b1⟩; have R1 := Lib.hid (Rd.own o1); have B1 := Lib.hid (GD.out.trans (b1.mono GD.out.size)); clear o1 b1))
    | (go_at_call 58; ((with_reducible refine (P4.out _).mono ?_); rintro e w2 ⟨A2, n2, c2, rfl, o2, b2⟩; have R2 := Lib.hid (Rd.own o2); have R12 := Lib.hid (R1.out.below b2); have B2 := Lib.hid (B1.out.trans (b2.mono B1.out.size)); clear o2 b2))
    | (go_at_call 35; ((refine (cat_any _ 3 3 [x1, x2, b] _ (RdBs.built3To w2 _ rfl _ R12.out R2.out (HR.out.below (B0.out.trans (B2.out.mono B0.out.size)))) (by rw [HFL.out, HHL.out]; have := HNB.out; omega)).mono ?_); intro e w3 h3; rw [HFL.out] at h3; obtain ⟨A3, n3, c3, rfl, o3, b3⟩ := New.from (B2.out.alloc B2.out.size _) h3; have O3 := Lib.hid o3; have B3 := Lib.hid b3; clear o3 b3 h3))
    | fail))
  have hn3 : n3 = 12 + nb := (own_len O3.out).symm.trans HHL.out
  subst hn3
  have B03 := Lib.hid (show Below w.heap.size w w3 from B0.out.trans (B3.out.mono B0.out.size))
  clear R1 R2 R12 B1 B2
  go_upto_region 3 with (first
    | (go_at_call 69; ((with_reducible refine (ON.out w3 A3 c3 B03.out (Rd.own O3.out)).mono ?_); rintro e w4 ⟨A4, n4, c4, rfl, o4, b4⟩; obtain rfl : 32 = n4 := HSM.out.symm.trans (own_len o4); have R4 := Lib.hid (Rd.own o4); have O4 := Lib.hid (own_below O3.out b4); have B4 := Lib.hid (B03.out.trans (b4.mono B03.out.size)); have hc4 := R4.out.cap; have P1 : ∀ W, (Instr.slice 25 (.slice A4 32 c4) none (some (.int .i64 16)) none).run Tryd.prog W = .ok (.slice A4 16 c4) W := fun W => run_cutSlH (m := 16) rfl (by omega) W; have P2 : ∀ W, (Instr.sliceAt 25 (.slice A4 32 c4) none (some (.int .i64 16)) none).run Tryd.prog W = .ok (.slice A4 16 c4) W := fun W => run_cutSlHAt (m := 16) rfl (by omega) W; clear o4 b4))
    | (go_at_call 35; ((refine (cat_any _ 2 2 [hd, sm.take 16] _ (RdBs.built2To w4 _ rfl _ (Rd.own O4.out) (R4.out.take (by omega))) (by rw [HFU.out, HUL.out]; have := HNB.out; omega)).mono ?_); intro e w5 h5; rw [HFU.out] at h5; obtain ⟨A5, n5, c5, rfl, o5, b5⟩ := New.from (B4.out.alloc B4.out.size _) h5; have O5 := Lib.hid o5; have B5 := Lib.hid b5; clear o5 b5 h5)))
  have hn5 : n5 = m := by rw [HM.out]; exact (own_len O5.out).symm.trans HUL.out
  subst hn5
  clear O3 O4 R4 hc4 P1 P2 B3 B03 B4
  go_wp2_with (first
    | (go_at_call 62; ((with_reducible refine (AR.out _).mono ?_); rintro e w6 ⟨rfl, rfl⟩))
    | (go_at_call 40; ((with_reducible refine (FI.out _).mono ?_); rintro e w6 ⟨A6, n6, c6, rfl, o6, b6⟩; have R6 := Lib.hid (Rd.own o6); have O6 := Lib.hid (own_below O5.out b6); have B6 := Lib.hid (B5.out.trans (b6.mono B5.out.size)); clear o6 b6))
    | (go_at_call 35; ((refine (cat_any _ 2 2 [fu, zs] _ (RdBs.built2To w6 _ rfl _ (Rd.own O6.out) R6.out) (by rw [HRE.out]; have := HRL.out; omega)).mono ?_); intro e w7 h7; rw [HRE.out] at h7; obtain ⟨A7, n7, c7, rfl, o7, b7⟩ := New.from (B6.out.alloc B6.out.size _) h7; have O7 := Lib.hid o7; have B7 := Lib.hid b7; clear o7 b7 h7)))
  go_ret
  exact ⟨A7, n7, c7, rfl, O7.out, B7.out⟩
end Go.Proofs.YtnoflgkjdibblaaDoor.S20
