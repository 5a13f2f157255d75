/-
  Texts put together: DsD, DsE, DsF, Ds7, DkM, SkA, SkB. No statement is proved here.
-/
import Derived.Test.YtnoflgkjdibblaaGreatDoorWb28
import Derived.Test.YtnoflgkjdibblaaGreatDoorWb09
import Derived.Test.YtnoflgkjdibblaaGreatDoorWb26
import Derived.Test.YtnoflgkjdibblaaGreatDoorWb06
import Derived.Deep.RegionHeld3
import Derived.Test.YtnoflgkjdibblaaGreatDoorWb27

/-
  What the landed there, and the closure of its round, do. No statement is proved here.
-/
namespace Go.Proofs.YtnoflgkjdibblaaGreatDoor.S19
set_option linter.unusedSimpArgs false
set_option linter.unusedVariables false
set_option maxRecDepth 8192
open Go.RowKit

/-- From which to which of its bytes a write is there. -/
def thF (c : Nat) : Nat := if c % 4 = 3 then c / 4 else 0
def thT (c : Nat) : Nat := if c % 4 = 1 then 64 else if c % 4 = 2 then c / 4 else if c % 4 = 3 then 64 else 0
theorem th_le {c : Nat} (h : c < 256) : thF c ≤ thT c ∧ thT c ≤ 64 := by
  unfold thF thT
  split <;> split <;> (try split) <;> (try split) <;> omega
theorem tdiv4 (c : Nat) : (c : Int).tdiv 4 = ((c / 4 : Nat) : Int) := by rw [Int.tdiv_eq_ediv_of_nonneg (by omega)]; rfl
theorem tmod4 (c : Nat) : (c : Int).tmod 4 = ((c % 4 : Nat) : Int) := by rw [Int.tmod_eq_emod_of_nonneg (by omega)]; rfl
set_option maxHeartbeats 1000000 in
theorem there_any (c : Nat) (hc : c < 256) (w : World) : Calls Tryz.prog 45 #[.int .u8 (c : Int)] w fun e w' => e = .returned (.tuple #[.int .i64 (thF c : Int), .int .i64 (thT c : Int)]) ∧ w = w' := by
  have h1 := tdiv4 c
  have h2 := tmod4 c
  obtain ⟨q, hq⟩ : ∃ q, q = c / 4 := ⟨_, rfl⟩
  rw [← hq] at h1
  have hF : thF c = if c % 4 = 3 then q else 0 := by rw [hq]; rfl
  have hT : thT c = if c % 4 = 1 then 64 else if c % 4 = 2 then q else if c % 4 = 3 then 64 else 0 := by rw [hq]; rfl
  have h64 : q < 64 := by omega
  have w1 : IntKind.u8.wrap (q : Int) = (q : Int) := by rw [IntKind.wrap_u8]; omega
  have w2 : IntKind.i64.wrap (q : Int) = (q : Int) := by rw [IntKind.wrap_i64]; omega
  have hr : c % 4 = 0 ∨ c % 4 = 1 ∨ c % 4 = 2 ∨ c % 4 = 3 := by omega
  rw [hF, hT]
  clear hF hT hq
  rcases hr with hr | hr | hr | hr
  all_goals
    rw [hr] at h2 ⊢
    simp only [reduceIte, Nat.reduceEqDiff]
    go_enter Tryz.func45, Tryz.ntmps45
    go_wp2
    go_ret2
    exact ⟨rfl, rfl⟩
/-- How far the choices are counted. -/
def cntC (n k : Nat) : Nat := if n = 0 then 0 else k
set_option maxHeartbeats 2000000 in
/-- The next choice. -/
theorem next_any (w : World) (pb ib : Nat) (A : Option Addr) (n c : Nat) (ch : List UInt8) (k : Nat) (hk : k + 1 ≤ 9223372036854775807) (h1 : Bk w pb 23 #[.slice A n c]) (h2 : Bk w ib 3 #[.int .i64 (cntC n k : Int)]) (hr : Rd w A n c ch) :
    Calls Tryz.prog 75 #[.pointer (some ⟨pb, 0, none⟩), .pointer (some ⟨ib, 0, none⟩)] w fun e w' => e = .returned (.int .u8 (Dk.choice ch k : Int)) ∧ Bk w' ib 3 #[.int .i64 (cntC n (k + 1) : Int)] ∧ w.grownBy w' (some ib) := by
  have a0 : w.cell? ⟨pb, 0, none⟩ = some (.slice A n c) := h1.cell 0
  have hl := hr.len
  rcases Nat.eq_zero_or_pos n with h0 | h0
  · subst h0
    obtain rfl : ch = [] := List.eq_nil_of_length_eq_zero hl
    rw [show Dk.choice [] k = 0 from rfl]
    go_enter Tryz.func75, Tryz.ntmps75
    go_wp2
    go_ret
    exact ⟨rfl, h2, World.grownBy.refl _ _⟩
  · have hne : n ≠ 0 := by omega
    have hch : ch ≠ [] := fun e => by rw [e] at hl; simp at hl; omega
    have e1 : cntC n k = k := by simp [cntC, hne]
    have e2 : cntC n (k + 1) = k + 1 := by simp [cntC, hne]
    rw [e1] at h2
    rw [e2]
    obtain ⟨m, hm⟩ : ∃ m, m = k % n := ⟨_, rfl⟩
    have hmn : m < n := by rw [hm]; exact Nat.mod_lt _ h0
    have e3 : Dk.choice ch k = (ch.getD m 0).toNat := by simp [Dk.choice, hch, hl, hm]
    rw [e3]
    obtain ⟨b, off, rfl, hb, hc⟩ := hr.at_ h0
    have hcm := hc m hmn
    have t1 : (k : Int).tmod (n : Int) = (m : Int) := by rw [Int.tmod_eq_emod_of_nonneg (by omega), hm]; rfl
    have q1 : ((n : Int) == 0) = false := by simp; omega
    have m1 : (m : Int) < (n : Int) := by omega
    have w0 : wrap64 (m : Int) = (m : Int) := by unfold wrap64; have := hr.cap; have := hr.max; simp only [maxLen] at this; omega
    have w1 : wrap64 ((k : Int) + 1) = ((k + 1 : Nat) : Int) := by unfold wrap64; omega
    have H1 := Lib.hid h1
    have H2 := Lib.hid h2
    have HR := Lib.hid hr
    have A0 := Lib.hid (show w.drew.cell? ⟨pb, 0, none⟩ = some (.slice (some ⟨b, off, none⟩) n c) from a0)
    have A1 := Lib.hid (show w.drew.cell? ⟨ib, 0, none⟩ = some (.int .i64 (k : Int)) from h2.cell 0)
    have A2 := Lib.hid (show w.drew.cell? ⟨b, off + m, none⟩ = some (.int .u8 ((ch.getD m 0).toNat : Int)) from hcm)
    obtain ⟨cv, hcv⟩ : ∃ cv : Int, cv = ((ch.getD m 0).toNat : Int) := ⟨_, rfl⟩
    rw [← hcv] at A2 ⊢
    have k2 : w.drew.cell? ⟨ib, 0, none⟩ = some (.int .i64 (k : Int)) := h2.cell 0
    have z2 : w.drew.frozen? ⟨ib, 0, none⟩ = false := h2.frozen 0
    clear h1 h2 hr hl hc hcm hm hch e1 e2 e3 hcv hk
    have h0' : ¬ (n : Int) = 0 := by omega
    go_enter Tryz.func75, Tryz.ntmps75
    go_upto_region 3 with (fail)
    (go_region_held3 (fun X => X.cell? ⟨pb, 0, none⟩ = some (.slice (some ⟨b, off, none⟩) n c) ∧ X.cell? ⟨ib, 0, none⟩ = some (.int .i64 (k : Int)) ∧ X.cell? ⟨b, off + m, none⟩ = some (.int .u8 cv)) (exact ⟨A0.out, A1.out, A2.out⟩) (fail))
    go_wp2_with (fail)
    go_ret
    refine ⟨rfl, H2.out.drew.put 0 _, ?_⟩
    exact only_put (show w.grownBy w.drew (some ib) from ⟨rfl, rfl, rfl, Nat.le_refl _, fun _ _ _ => rfl⟩) (.inl rfl) _
set_option maxHeartbeats 1000000 in
theorem round_any (w : World) (A : Option Addr) (n c : Nat) : Calls Tryz.prog 44 #[.slice A n c] w fun e w' => e = .returned (.func (.func 75) #[] #[.pointer (some ⟨w.heap.size, 0, none⟩), .pointer (some ⟨w.heap.size + 1, 0, none⟩)]) ∧
    Bk w' w.heap.size 23 #[.slice A n c] ∧ Bk w' (w.heap.size + 1) 3 #[.int .i64 0] ∧ Below w.heap.size w w' ∧ w'.heap.size = w.heap.size + 2 := by
  have hmf : ∀ (fn : Fn) (first cap : Array Value) (w : World), (Instr.makeFunc fn first cap).run Tryz.prog w = .ok (.func fn first cap) w := fun _ _ _ _ => rfl
  have k1 : ((w.alloc (.cells #[.slice A n c] 23)).alloc (.cells #[.int .i64 0] 3)).cell? ⟨w.heap.size + 1, 0, none⟩ = some (.int .i64 0) := (Bk.newAt (w.alloc (.cells #[.slice A n c] 23)) 3 #[.int .i64 0] (w.heap.size + 1) (by simp)).cell 0
  have z1 := (Bk.newAt (w.alloc (.cells #[.slice A n c] 23)) 3 #[.int .i64 0] (w.heap.size + 1) (by simp)).frozen 0
  go_enter Tryz.func44, Tryz.ntmps44
  go_wp2
  go_ret
  refine ⟨rfl, (Bk.newAt w _ _ w.heap.size rfl).alloc _, Bk.newAt _ _ _ (w.heap.size + 1) (by simp), ((Below.refl _ _).alloc (Nat.le_refl _) _).alloc (by simp) _, by simp⟩
end Go.Proofs.YtnoflgkjdibblaaGreatDoor.S19

/-
  A part of a sector is written over by what was pending: in plain words, and as the landed Up does it. No statement is proved here.
-/
namespace Go.Proofs.YtnoflgkjdibblaaGreatDoor.S19
set_option linter.unusedSimpArgs false
set_option linter.unusedVariables false
set_option maxRecDepth 8192
open Go.RowKit

theorem tears_iff {c i : Nat} (hi : i < 64) : tears c i ↔ thF c ≤ i ∧ i < thT c := by
  unfold tears thF thT
  have hr : c % 4 = 0 ∨ c % 4 = 1 ∨ c % 4 = 2 ∨ c % 4 = 3 := by omega
  rcases hr with hr | hr | hr | hr <;> simp [hr] <;> omega
theorem torn_cut {c : Nat} (hc : c < 256) {old now : List UInt8} (lo : old.length = 64) (ln : now.length = 64) : old.take (thF c) ++ (now.drop (thF c)).take (thT c - thF c) ++ old.drop (thT c) = Dk.torn c old now := by
  obtain ⟨h1, h2⟩ := th_le hc
  rw [← tornP_full]
  apply List.ext_getElem (by simp [tornP, lo, ln]; omega)
  intro i a1 a2
  have hi : i < 64 := by simpa [tornP] using a2
  have e := tears_iff (c := c) hi
  have e2 : (tornP c old now 64)[i]'a2 = if tears c i then now.getD i 0 else old.getD i 0 := by simp [tornP, hi]
  refine Eq.trans ?_ e2.symm
  simp only [List.getElem_append, List.length_take, List.length_append, List.length_drop, lo, ln, List.getElem_take, List.getElem_drop]
  by_cases q1 : i < thF c
  · have q2 : ¬ tears c i := fun h => by have := e.1 h; omega
    have q3 : i < min (thF c) 64 := by omega
    have q4 : i < min (thF c) 64 + min (thT c - thF c) (64 - thF c) := by omega
    simp [q2, q3, q4, List.getD, lo, hi]
  · by_cases q2 : i < thT c
    · have q3 : tears c i := e.2 ⟨by omega, q2⟩
      have q4 : i < min (thF c) 64 + min (thT c - thF c) (64 - thF c) := by omega
      have q5 : ¬ i < min (thF c) 64 := by omega
      have q6 : thF c + (i - min (thF c) 64) = i := by omega
      simp [q3, q4, q5, q6, List.getD, ln, hi]
    · have q3 : ¬ tears c i := fun h => by have := e.1 h; omega
      have q4 : ¬ i < min (thF c) 64 + min (thT c - thF c) (64 - thF c) := by omega
      have q6 : thT c + (i - (min (thF c) 64 + min (thT c - thF c) (64 - thF c))) = i := by omega
      simp [q3, q4, q6, List.getD, lo, hi]
theorem copy_part (W : World) (ty : TypeId) (sb wb m f t : Nat) (z : Int) (T T' : TypeId) (s : List (List UInt8)) (b : List UInt8) (hs : Bk W sb T (rowsV s).toArray) (hw : Bk W wb T' (Value.int .i64 z :: bv b).toArray) (hr : ∀ x ∈ s, x.length = 64) (hb : b.length = 64) (hm : m < s.length) (h1 : f ≤ t) (h2 : t ≤ 64) :
    (Builtin.copy_ #[23, 23] ty #[.slice (some ⟨sb, m * 64 + f, none⟩) (t - f) (64 - f), .slice (some ⟨wb, 1 + f, none⟩) (t - f) (64 - f)]).run Tryz.prog W =
      .ok (goInt ((t - f : Nat) : Int)) (W.setRow sb (rowsV (s.set m ((s.getD m []).take f ++ (b.drop f).take (t - f) ++ (s.getD m []).drop t))).toArray) := by
  have hx := hr _ (getD_mem hm)
  have hl := rowsV_len hr
  have lc : (bv ((b.drop f).take (t - f))).length = t - f := by rw [bv_length, List.length_take, List.length_drop, hb]; omega
  have h := run_copy_row (P := Tryz.prog) W 23 23 ty 5 sb (m * 64 + f) (t - f) (64 - f) ⟨wb, 1 + f, none⟩ (t - f) (64 - f) (rowsV s).toArray T (bv ((b.drop f).take (t - f))) Tryz.underlying23 (by kernel_rfl) hs (by rw [lc]; simp) (fun j v hj => by
    have e : (⟨wb, 1 + f, none⟩ : Addr).add j = ⟨wb, 1 + f + j, none⟩ := by unfold Addr.add; split <;> simp_all
    have hj2 : j < t - f := by
      rcases Nat.lt_or_ge j (t - f) with h | h
      · exact h
      · rw [List.getElem?_eq_none (by omega)] at hj; cases hj
    rw [e, hw.cell, List.getElem?_toArray, show 1 + f + j = (f + j) + 1 by omega, List.getElem?_cons_succ]
    rw [bv_at _ j (by simp [hb]; omega)] at hj
    rw [bv_at _ (f + j) (by omega), ← hj]
    simp) (by simp [lc, hl]; omega) (bv_one _)
  rw [h, lc]
  congr 2
  have hL := take_rows hr m (Nat.le_of_lt hm)
  have e := rowsV_split hm
  rw [rowsV_set hm]
  generalize s.getD m [] = x at hx e ⊢
  simp only [List.toList_toArray, lc]
  rw [e]
  congr 1
  rw [show m * 64 + f = 64 * m + f by omega, show 64 * m + f + (t - f) = 64 * m + t by omega]
  generalize rowsV (s.take m) = L at hL ⊢
  generalize rowsV (s.drop (m + 1)) = R
  rw [List.append_assoc L (bv x) R, ← hL, List.take_length_add_append, List.drop_length_add_append, List.take_append_of_le_length (by rw [bv_length]; omega), List.drop_append_of_le_length (by rw [bv_length]; omega)]
  rw [show (bv x).take f = bv (x.take f) by simp [bv, List.map_take], show (bv x).drop t = bv (x.drop t) by simp [bv, List.map_drop]]
  simp [bv_append, List.append_assoc]
/-- What is pending lies in cells, one write behind the other. -/
theorem pend_range {w : World} {B : Nat} {v : Value} {p : List (Nat × List UInt8)} (h : w.ownsRow B 107 65 v p.length (pendV p)) (hp : ∀ q ∈ p, q.2.length = 64) {k : Nat} (hk : k < p.length) :
    ∃ b c, v = .slice (some ⟨b, 0, none⟩) p.length c ∧ w.rangeAt b (k * 65) (Value.int .i64 (p[k].1 : Int) :: bv p[k].2) := by
  rcases h.2 with ⟨_, h0⟩ | ⟨b, cap, cur, rfl, _⟩
  · omega
  · refine ⟨b, cap, rfl, fun j v hj => ?_⟩
    have hq := hp _ (List.getElem_mem hk)
    have hj2 : j < 65 := by
      have := (List.getElem?_eq_some_iff.1 hj).1
      simp [bv_length, hq] at this
      exact this
    rw [h.cellAt (k * 65 + j) (by
      have : k * 65 + 65 ≤ p.length * 65 := by rw [show k * 65 + 65 = (k + 1) * 65 by omega]; exact Nat.mul_le_mul_right 65 hk
      omega), pend_split hk, List.append_assoc, List.getElem?_append_right (by rw [take_pend hp k (Nat.le_of_lt hk)]; omega), take_pend hp k (Nat.le_of_lt hk), show k * 65 + j - 65 * k = j by omega, List.getElem?_append_left (by simp [bv_length, hq]; omega)]
    exact hj
/-- A sector that is sure has turned. -/
theorem In.sureSet {N : Nat} {w : World} {g : Nat} {sure now : List (List UInt8)} {pend : List (Nat × List UInt8)} {fails : List Int} {F : Nat → Prop} {V : KnV} (r : In N w g sure now pend fails F V) (s' : List (List UInt8)) :
    In N (w.setRow V.sb (rowsV s').toArray) g s' now pend fails F V := by
  have hs : (w.setRow V.sb (rowsV s').toArray).heap.size = w.heap.size := by simp [World.setRow]
  have hk : ∀ b, b ≠ V.sb → (w.setRow V.sb (rowsV s').toArray).heap[b]? = w.heap[b]? := fun b hb => setRow_other w V.sb b _ hb
  exact ⟨r.sure.row _, (hk _ r.d3.symm).trans r.now, own_keepH r.pend fun b hb _ => hk _ (r.dP b hb).2.1, r.fl.keep (by omega) fun a h1 h2 _ => hk _ (r.dF a h1 h2).2.1, r.few, r.mem, r.srt, r.fg, r.fs, r.fnn, r.fp, r.ff, fun b hb => by rw [hs]; exact r.gN b hb, r.d1, r.d2, r.d3, r.dP, r.dF⟩
end Go.Proofs.YtnoflgkjdibblaaGreatDoor.S19

/-
  What the landed Up does. No statement is proved here.
-/
namespace Go.Proofs.YtnoflgkjdibblaaGreatDoor.S19
set_option linter.unusedSimpArgs false
set_option linter.unusedVariables false
set_option maxRecDepth 8192
open Go.RowKit

/-- What holds while what is pending is gone through. -/
structure UpI (N : Nat) (w : World) (g kk : Nat) (D : Dk) (F : Nat → Prop) (V : KnV) (px p1 i1 : Nat) (A' : Option Addr) (n' c' : Nat) (ch : List UInt8) (A : Option Addr) (n c : Nat) (st : Int) (k : Nat) (X : World) : Prop where
  blk : Bk X g 79 (knA V kk D.cnt D.stop D.off)
  r : In N X g (Dk.tear ch 0 (D.pend.take k) D.sure) (Dk.laid D.pend D.sure) D.pend D.fails F V
  mv : Mv N F w X
  bx : Bk X px 51 #[.slice A n c, .int .i64 st]
  b1 : Bk X p1 23 #[.slice A' n' c']
  b2 : Bk X i1 3 #[.int .i64 (cntC n' k : Int)]
/-- What reads is written over by what is sure. -/
theorem In.upped {N : Nat} {w : World} {g : Nat} {sure now : List (List UInt8)} {pend : List (Nat × List UInt8)} {fails : List Int} {F : Nat → Prop} {V : KnV} (r : In N w g sure now pend fails F V) :
    In N (w.setRow V.nb (rowsV sure).toArray) g sure sure [] fails F { V with vP := .slice none 0 0 } := by
  have hs : (w.setRow V.nb (rowsV sure).toArray).heap.size = w.heap.size := by simp [World.setRow]
  have hk : ∀ b, b ≠ V.nb → (w.setRow V.nb (rowsV sure).toArray).heap[b]? = w.heap[b]? := fun b hb => setRow_other w V.nb b _ hb
  exact ⟨(hk _ r.d3).trans r.sure, r.now.row _, ⟨rfl, .inl ⟨rfl, rfl⟩⟩, r.fl.keep (by omega) fun a h1 h2 _ => hk _ (r.dF a h1 h2).2.2.1, r.few, r.mem, r.srt, r.fg, r.fs, r.fnn, fun b h => absurd h (by simp [Value.ownBlock]), r.ff, fun b hb => by rw [hs]; exact r.gN b hb, r.d1, r.d2, r.d3, fun b h => absurd h (by simp [Value.ownBlock]), fun a h1 h2 => ⟨(r.dF a h1 h2).1, (r.dF a h1 h2).2.1, (r.dF a h1 h2).2.2.1, by simp [Value.ownBlock]⟩⟩
theorem own_max {w : World} {B e sz n : Nat} {v : Value} {xs : List Value} (h : w.ownsRow B e sz v n xs) : n ≤ maxLen := by
  rcases h.2 with ⟨_, rfl⟩ | ⟨_, cap, _, _, _, _, h1, h2, _⟩
  · exact Nat.zero_le _
  · omega
set_option maxHeartbeats 16000000 in
theorem up_any (N : Nat) (w : World) (g : Nat) (D : Dk) (F : Nat → Prop) (A' : Option Addr) (n' c' : Nat) (ch : List UInt8) (A : Option Addr) (n c : Nat) (fs : List Int) (st : Int) (t : Kn N w g D F) (hch : Rd w A' n' c' ch) (hap : ∀ a, 0 < n' → A' = some a → ¬ F a.block) (hfs : RI w .i64 A n c fs) (haf : ∀ a, 0 < n → A = some a → ¬ F a.block) (hn : n ≤ 1099511627776) :
    Calls Tryz.prog 19 #[.pointer (some ⟨g, 0, none⟩), .slice A' n' c', .agg #[.slice A n c, .int .i64 st]] w fun e w' => e = .returned (.tuple #[]) ∧ ∃ F', Kn N w' g (D.up ch fs st) F' ∧ (∀ b, F' b → F b ∨ w.heap.size ≤ b) ∧ Mv N F w w' := by
  obtain ⟨ok, V, hb, r⟩ := t
  have OK := Lib.hid ok
  have GL := Lib.hid (r.gN g r.fg)
  have NF := Lib.hid (show ∀ x, w.heap.size ≤ x → ¬ F x from fun x hx h => by have := (r.gN x h).2; omega)
  have PM := Lib.hid (own_max r.pend)
  obtain ⟨kk, hkk⟩ : ∃ kk, kk = D.sure.length := ⟨_, rfl⟩
  rw [← hkk] at hb
  have HKK := Lib.hid hkk
  obtain ⟨AP, cP, hvP⟩ := own_slice r.pend
  obtain ⟨pl, hpl⟩ : ∃ pl, pl = D.pend.length := ⟨_, rfl⟩
  rw [← hpl] at hvP PM
  have HPL := Lib.hid hpl
  have HVP := Lib.hid hvP
  obtain ⟨px, hpx⟩ : ∃ px, px = w.heap.size := ⟨_, rfl⟩
  obtain ⟨w1, hw1⟩ : ∃ w1, w1 = w.alloc (.cells #[.slice A n c, .int .i64 st] 51) := ⟨_, rfl⟩
  have P1 := Lib.hid (show Bk w1 px 51 #[.slice A n c, .int .i64 st] by rw [hw1]; exact Bk.newAt _ _ _ _ hpx.symm)
  have G1 := Lib.hid (show Below w.heap.size w w1 by rw [hw1]; exact (Below.refl _ _).alloc (Nat.le_refl _) _)
  have S1 := Lib.hid (show w1.heap.size = w.heap.size + 1 by rw [hw1]; simp)
  have HB := Lib.hid hb
  have R := Lib.hid r
  have HCH := Lib.hid hch
  have HFS := Lib.hid hfs
  have HAP := Lib.hid hap
  have HAF := Lib.hid haf
  have HN := Lib.hid hn
  have HW1 := Lib.hid hw1
  have HPX := Lib.hid hpx
  have RO := Lib.hid (fun X => round_any X A' n' c')
  clear hb r ok hkk hpl hvP hch hap hfs haf hn hw1
  go_enter Tryz.func19, Tryz.ntmps19
  go_upto_region 2 with (go_at_call 44; ((first | rw [← HW1.out] | skip); (with_reducible refine (RO.out _).mono ?_); rintro e w2 ⟨rfl, k1, k2, b2, s2⟩; have K1 := Lib.hid k1; have K2 := Lib.hid k2; have B2 := Lib.hid b2; have S2 := Lib.hid s2; clear k1 k2 b2 s2))
  have GW := Lib.hid (show Below w.heap.size w w2 from G1.out.trans (B2.out.mono (by have := S1.out; omega)))
  have BX := Lib.hid (P1.out.below B2.out P1.out.lt)
  generalize w1.heap.size = p1 at *
  have U0 := Lib.hid (show UpI N w g kk D F V px p1 (p1 + 1) A' n' c' ch A n c st 0 w2 from
    ⟨HB.out.below GW.out HB.out.lt, R.out.below GW.out, Mv.of (by have := GL.out; omega) GW.out, BX.out, K1.out, by rw [show cntC n' 0 = 0 by simp [cntC]]; exact K2.out⟩)
  have HP1 := Lib.hid (show p1 = w.heap.size + 1 from S1.out)
  have c2 : w2.cell? ⟨g, 2, none⟩ = some (.slice AP pl cP) := by rw [← HVP.out]; exact U0.out.blk.cell 2
  clear K1 K2 B2 BX HW1 P1 G1
  go_upto_region 3 with (fail)
  clear c2
  go_loopw [18] (fun kv wr => ∃ k : Nat, k ≤ pl ∧ kv = .int .i64 (k : Int) ∧ UpI N w g kk D F V px p1 (p1 + 1) A' n' c' ch A n c st k wr)
    (fun kv _ => pl - (intOf kv).toNat)
  case atStart => exact ⟨0, Nat.zero_le _, rfl, U0.out⟩
  case round =>
    obtain ⟨k, hk, rfl, hU⟩ := hrel
    have U := Lib.hid hU
    clear hU U0
    by_cases hlt : k < pl
    · have t0 : (k : Int) < (pl : Int) := by omega
      have HLT := Lib.hid hlt
      have K63 := Lib.hid (show k + 1 ≤ 9223372036854775807 by have h := PM.out; simp only [maxLen] at h; omega)
      have e1 : wrap64 ((k : Int) + 1) = (k : Int) + 1 := by unfold wrap64; have := K63.out; omega
      obtain ⟨pvb, pcc, hv, hrg⟩ := pend_range U.out.r.pend (fun q hq => (OK.out.pend q hq).2) (k := k) (by rw [← HPL.out]; exact hlt)
      rw [HVP.out] at hv
      injection hv with hv1 hv2 hv3
      subst hv1
      obtain ⟨q, hq⟩ : ∃ q, q = D.pend[k]'(by rw [← HPL.out]; exact hlt) := ⟨_, rfl⟩
      rw [← hq] at hrg
      have HQ := Lib.hid (show D.pend.getD k (0, []) = q by rw [hq, List.getD_eq_getElem?_getD, List.getElem?_eq_getElem (by rw [← HPL.out]; exact hlt)]; rfl)
      have QOK := Lib.hid (show q.1 < kk ∧ q.2.length = 64 by rw [hq, HKK.out]; exact OK.out.pend _ (List.getElem_mem _))
      obtain ⟨EL, hEL⟩ : ∃ EL, EL = Value.int .i64 (q.1 : Int) :: bv q.2 := ⟨_, rfl⟩
      rw [← hEL] at hrg
      have LEL := Lib.hid (show EL.length = 65 by rw [hEL]; simp [bv_length, QOK.out.2])
      have OEL := Lib.hid (show ∀ v ∈ EL, v.oneCell' = true by
        rw [hEL]
        intro u hu
        rcases List.mem_cons.1 hu with rfl | hu
        · rfl
        · exact bv_one _ u hu)
      have HEL := Lib.hid hEL
      have RG := Lib.hid hrg
      have SZ := Lib.hid (show (Tryz.zeroCells107).size = 65 by kernel_rfl)
      have HI := Lib.hid (show (Tryz.prog.info? 107).map (·.size) = some EL.length by rw [LEL.out]; kernel_rfl)
      clear hv2 hv3 hq hEL hrg hlt
      go_upto_region 5 with (first
        | (refine wpList_load_mid rfl 107 (.tmp 20) rfl pvb (k * 65) rfl EL _ RG.out Tryz.underlying107 rfl HI.out ?_)
        | (refine wpList_store_row rfl 107 (.tmp 8) (.tmp 21) rfl wr.heap.size EL.toArray rfl rfl 107 _ (Bk.newAt _ _ _ _ rfl) (by rw [List.size_toArray]; exact HI.out) (SZ.out.trans (by rw [List.size_toArray]; exact LEL.out.symm)) (all_oneCell_toArray OEL.out) ?_))
      obtain ⟨wb, hwb⟩ : ∃ wb, wb = wr.heap.size := ⟨_, rfl⟩
      have WB := Lib.hid (show Bk ((wr.alloc (.cells Tryz.zeroCells107 107)).setRow wr.heap.size EL.toArray) wb 107 EL.toArray by rw [hwb]; exact (Bk.newAt _ _ _ _ rfl).row _)
      have GA := Lib.hid (show Below wr.heap.size wr ((wr.alloc (.cells Tryz.zeroCells107 107)).setRow wr.heap.size EL.toArray) from ⟨rfl, rfl, rfl, by simp [World.setRow], fun x hx => (setRow_other _ _ x _ (by omega)).trans (Below.heap_alloc _ _ x hx)⟩)
      have SA := Lib.hid (show ((wr.alloc (.cells Tryz.zeroCells107 107)).setRow wr.heap.size EL.toArray).heap.size = wr.heap.size + 1 by simp [World.setRow])
      generalize (wr.alloc (.cells Tryz.zeroCells107 107)).setRow wr.heap.size EL.toArray = wa at *
      have HWB := Lib.hid hwb
      have U2 := Lib.hid (show p1 + 1 < wb by rw [hwb]; exact U.out.b2.lt)
      have UA := Lib.hid (show UpI N w g kk D F V px p1 (p1 + 1) A' n' c' ch A n c st k wa from ⟨U.out.blk.below GA.out U.out.blk.lt, U.out.r.below GA.out, U.out.mv.trans (Mv.of (F := F) (by have := U.out.mv.size; have := GL.out; omega) GA.out) fun b h => .inl h, U.out.bx.below GA.out U.out.bx.lt, U.out.b1.below GA.out U.out.b1.lt, U.out.b2.below GA.out U.out.b2.lt⟩)
      have RA := Lib.hid (show Rd wa A' n' c' ch from UA.out.mv.rd HCH.out HAP.out)
      have NX := Lib.hid (next_any wa p1 (p1 + 1) A' n' c' ch k K63.out UA.out.b1 UA.out.b2 RA.out)
      obtain ⟨cv, hcv⟩ : ∃ cv, cv = Dk.choice ch k := ⟨_, rfl⟩
      have C256 := Lib.hid (show cv < 256 by rw [hcv]; unfold Dk.choice; split; omega; exact u8_lt _)
      have TH := Lib.hid (fun X => there_any cv C256.out X)
      have TL := Lib.hid (th_le C256.out)
      have TF := Lib.hid (show thF cv ≤ 63 by have := C256.out; unfold thF; split <;> omega)
      have HCV := Lib.hid hcv
      rw [← hcv] at NX
      obtain ⟨ff, hff⟩ : ∃ ff, ff = thF cv := ⟨_, rfl⟩
      obtain ⟨tt, htt⟩ : ∃ tt, tt = thT cv := ⟨_, rfl⟩
      rw [← hff, ← htt] at TH TL
      rw [← hff] at TF
      have HFF := Lib.hid hff
      have HTT := Lib.hid htt
      rw [← hwb]
      clear hcv hff htt hwb U RG SZ HI
      have f1 : (0 : Int) ≤ (ff : Int) := by omega
      have f2 : (ff : Int) ≤ (tt : Int) := by have := TL.out; omega
      have f3 : (tt : Int) ≤ 64 := by have := TL.out; omega
      have f4 : ¬ (64 : Nat) = ff := by have := TF.out; omega
      go_upto_region 6 with (first
        | (go_at_call 75; ((with_reducible refine NX.out.mono ?_); rintro e w5 ⟨rfl, b5, g5⟩; have I5 := Lib.hid b5; have G5 := Lib.hid g5; clear b5 g5))
        | (go_at_call 45; ((with_reducible refine (TH.out _).mono ?_); rintro e w6 ⟨rfl, rfl⟩)))
      have hq1 : (q.1 : Int) < (kk : Int) := by have := QOK.out.1; omega
      have X5 := Lib.hid (show wa.heap.size ≤ w5.heap.size from G5.out.size)
      have KA := Lib.hid (show ∀ x, x < wa.heap.size → x ≠ p1 + 1 → w5.heap[x]? = wa.heap[x]? from fun x hx hne => G5.out.block x hx fun e => hne (Option.some.inj e))
      have NI := Lib.hid (show ∀ x, F x → x ≠ p1 + 1 from fun x hx e => NF.out x (by have := HP1.out; omega) hx)
      have HB5 := Lib.hid (show Bk w5 g 79 (knA V kk D.cnt D.stop D.off) from (KA.out g UA.out.blk.lt (NI.out g R.out.fg)).trans UA.out.blk)
      have R5 := Lib.hid (UA.out.r.keep X5.out fun x hx _ hlt => KA.out x hlt (NI.out x hx))
      have M5 := Lib.hid (show Mv N F w w5 from UA.out.mv.trans (w'' := w5) (F' := fun x => x = p1 + 1) ⟨⟨G5.out.os, G5.out.tape, G5.out.output, X5.out, fun x hx => KA.out x (by have := UA.out.mv.size; have := GL.out; omega) (by have := HP1.out; have := GL.out; omega)⟩, fun x hx hne => KA.out x hx hne⟩ fun x hx => .inr (by have := HP1.out; omega))
      have BX5 := Lib.hid (show Bk w5 px 51 #[.slice A n c, .int .i64 st] from (KA.out px UA.out.bx.lt (by have := HP1.out; have := HPX.out; omega)).trans UA.out.bx)
      have P15 := Lib.hid (show Bk w5 p1 23 #[.slice A' n' c'] from (KA.out p1 UA.out.b1.lt (by omega)).trans UA.out.b1)
      have WB5 := Lib.hid (show Bk w5 wb 107 EL.toArray from (KA.out wb WB.out.lt (by have h1 := U2.out; omega)).trans WB.out)
      have q0 : w5.drew.cell? ⟨g, 0, none⟩ = some (.slice (some ⟨V.sb, 0, none⟩) kk kk) := HB5.out.drew.cell 0
      have q2 : w5.drew.cell? ⟨wb, 0, none⟩ = some (.int .i64 (q.1 : Int)) := by have h := WB5.out.drew.cell 0; rw [HEL.out] at h; simpa using h
      obtain ⟨S, hS⟩ : ∃ S, S = Dk.tear ch 0 (D.pend.take k) D.sure := ⟨_, rfl⟩
      have R5s := R5.out
      rw [← hS] at R5s
      have lS : S.length = kk := by rw [hS, Dk.tear_len, ← HKK.out]
      have rS : ∀ x ∈ S, x.length = 64 := by rw [hS]; exact Dk.tear_rows ch _ _ _ OK.out.rows
      have hcp := copy_part w5.drew 3 V.sb wb q.1 ff tt (q.1 : Int) _ _ S q.2 R5s.sure.drew (by rw [← HEL.out]; exact WB5.out.drew) rS QOK.out.2 (by rw [lS]; exact QOK.out.1) TL.out.1 TL.out.2
      rw [HFF.out, HTT.out, torn_cut C256.out (rS _ (getD_mem (by rw [lS]; exact QOK.out.1))) QOK.out.2, ← HFF.out, ← HTT.out] at hcp
      obtain ⟨S2, hS2⟩ : ∃ S2, S2 = S.set q.1 (Dk.torn cv (S.getD q.1 []) q.2) := ⟨_, rfl⟩
      rw [← hS2] at hcp
      have HS2 := Lib.hid (show S2 = Dk.tear ch 0 (D.pend.take (k + 1)) D.sure by rw [hS2, hS, tear_take ch D.pend D.sure k (by rw [← HPL.out]; exact HLT.out), HQ.out, HCV.out])
      have R6 := Lib.hid (R5s.drew.sureSet S2)
      generalize (rowsV S2).toArray = Z at hcp R6
      have HB6 := Lib.hid (HB5.out.drew.rowFar R.out.d1 Z)
      have WB6 := Lib.hid (show Bk (w5.drew.setRow V.sb Z) wb 107 EL.toArray from WB5.out.drew.rowFar (fun e => NF.out wb (by have h1 := U2.out; have := HP1.out; omega) (by rw [e]; exact R.out.fs)) Z)
      clear hS hS2 R5s lS rS
      (go_region_held3 (fun X => X.cell? ⟨g, 0, none⟩ = some (.slice (some ⟨V.sb, 0, none⟩) kk kk) ∧ X.cell? ⟨wb, 0, none⟩ = some (.int .i64 (q.1 : Int))) (first
        | exact ⟨q0, q2⟩
        | exact ⟨HB6.out.cell 0, (WB6.out.cell 0).trans (by rw [HEL.out]; simp)⟩) (fail))
      go_wp2_with (fail)
      go_roundw
      case rel =>
        have hs := NI.out
        have M6 : Mv N F w (w5.drew.setRow V.sb Z) := (M5.out.trans (Mv.of (F := F) (by have := M5.out.size; have := GL.out; omega) (Below.refl _ _).drew) fun b h => .inl h).trans (Mv.row R.out.fs (R.out.gN _ R.out.fs).1 Z) fun b h => .inl h
        have h6 := R6.out
        rw [HS2.out] at h6
        exact ⟨k + 1, HLT.out, by go_num, HB6.out, h6, M6, BX5.out.drew.rowFar (fun e => NF.out px (by rw [HPX.out]; exact Nat.le_refl _) (by rw [e]; exact R.out.fs)) Z, P15.out.drew.rowFar (fun e => NF.out p1 (by have := HP1.out; omega) (by rw [e]; exact R.out.fs)) Z, I5.out.drew.rowFar (fun e => NF.out (p1 + 1) (by have := HP1.out; omega) (by rw [e]; exact R.out.fs)) Z⟩
      case measure =>
        have h := HLT.out
        rw [e1]
        show pl - (intOf (.int .i64 ((k : Int) + 1))).toNat < pl - (intOf (.int .i64 (k : Int))).toNat
        have h1 : (intOf (.int .i64 ((k : Int) + 1))).toNat = k + 1 := by simp only [intOf]; omega
        have h2 : (intOf (.int .i64 (k : Int))).toNat = k := by simp only [intOf]; omega
        rw [h1, h2]
        omega
    · obtain rfl : k = pl := by omega
      have t0 : ¬ (k : Int) < (k : Int) := by omega
      have HS := Lib.hid (show Dk.tear ch 0 (D.pend.take k) D.sure = Dk.tear ch 0 D.pend D.sure by rw [HPL.out, List.take_length])
      obtain ⟨S, hS⟩ : ∃ S, S = Dk.tear ch 0 D.pend D.sure := ⟨_, rfl⟩
      have r0 := U.out.r
      rw [HS.out, ← hS] at r0
      have lS : S.length = kk := by rw [hS, Dk.tear_len, ← HKK.out]
      have rS : ∀ x ∈ S, x.length = 64 := by rw [hS]; exact Dk.tear_rows ch _ _ _ OK.out.rows
      have lN : (Dk.laid D.pend D.sure).length = kk := by rw [Dk.laid_len, ← HKK.out]
      have rN : ∀ x ∈ Dk.laid D.pend D.sure, x.length = 64 := Dk.laid_rows _ _ (fun p hp => (OK.out.pend p hp).2) OK.out.rows
      have hcp := copy_all wr.drew 3 V.nb V.sb kk _ _ _ _ r0.now.drew r0.sure.drew rN rS lN lS
      have R7 := Lib.hid r0.drew.upped
      have HSS := Lib.hid hS
      have LS := Lib.hid lS
      generalize (rowsV S).toArray = Z at hcp R7
      have HB7 := Lib.hid (U.out.blk.drew.rowFar R.out.d2 Z)
      have M7 := Lib.hid (show Mv N F w (wr.drew.setRow V.nb Z) from (U.out.mv.trans (Mv.of (F := F) (by have := U.out.mv.size; have := GL.out; omega) (Below.refl _ _).drew) fun b h => .inl h).trans (Mv.row R.out.fnn (R.out.gN _ R.out.fnn).1 Z) fun b h => .inl h)
      have BX7 := Lib.hid (U.out.bx.drew.rowFar (fun e => NF.out px (by rw [HPX.out]; exact Nat.le_refl _) (by rw [e]; exact R.out.fnn)) Z)
      clear r0 hS lS rS lN rN
      go_upto_region 8 with (fail)
      (go_region_held3 (fun X => X.cell? ⟨g, 0, none⟩ = some (.slice (some ⟨V.sb, 0, none⟩) kk kk) ∧ X.cell? ⟨g, 1, none⟩ = some (.slice (some ⟨V.nb, 0, none⟩) kk kk)) (first
        | exact ⟨U.out.blk.drew.cell 0, U.out.blk.drew.cell 1⟩
        | exact ⟨HB7.out.cell 0, HB7.out.cell 1⟩) (fail))
      generalize wr.drew.setRow V.nb Z = w7 at *
      have b2 : w7.cell? ⟨g, 2, none⟩ = some V.vP := HB7.out.cell 2
      have b3 : w7.cell? ⟨g, 3, none⟩ = some (.int .i64 (D.cnt : Int)) := HB7.out.cell 3
      have b6 : w7.cell? ⟨g, 6, none⟩ = some (.bool D.off) := HB7.out.cell 6
      have z2 := HB7.out.frozen 2
      have z3 := HB7.out.frozen 3
      have z6 := HB7.out.frozen 6
      clear hcp U
      go_upto_region 10 with (fail)
      have HB9 := Lib.hid (((HB7.out.put 2 (.slice none 0 0)).put 3 (.int .i64 0)).put 6 (.bool false))
      have R9 := Lib.hid (((R7.out.poke 2 (.slice none 0 0)).poke 3 (.int .i64 0)).poke 6 (.bool false))
      have M9 := Lib.hid (((M7.out.trans (Mv.pokeK R.out.fg GL.out.1 2 (.slice none 0 0)) fun b h => .inl h).trans (Mv.pokeK R.out.fg GL.out.1 3 (.int .i64 0)) fun b h => .inl h).trans (Mv.pokeK R.out.fg GL.out.1 6 (.bool false)) fun b h => .inl h)
      have pg : px ≠ g := fun e => NF.out px (by rw [HPX.out]; exact Nat.le_refl _) (by rw [e]; exact R.out.fg)
      have BX9 := Lib.hid (((BX7.out.far (p := ⟨g, 2, none⟩) pg (.slice none 0 0)).far (p := ⟨g, 3, none⟩) pg (.int .i64 0)).far (p := ⟨g, 6, none⟩) pg (.bool false))
      generalize ((w7.setCell ⟨g, 2, none⟩ (.slice none 0 0)).setCell ⟨g, 3, none⟩ (.int .i64 0)).setCell ⟨g, 6, none⟩ (.bool false) = w9 at *
      have T9 : Kn N w9 g ⟨S, [], D.fails, D.stop, 0, false⟩ F := by
        refine ⟨?_, { V with vP := .slice none 0 0 }, ?_, ?_⟩
        · have h := Dk.up_ok OK.out ch D.fails D.stop
          unfold Dk.up at h
          rw [← HSS.out] at h
          exact h
        · have h := HB9.out
          show Bk w9 g _ (knA _ S.length 0 D.stop false)
          rw [LS.out]
          exact h
        · exact R9.out
      have RI9 := HFS.out.keep M9.out.size fun a h1 h2 h3 => M9.out.same a.block h3 (HAF.out a h1 h2)
      have PC := Lib.hid (plan_any N w9 g _ F A n c fs st T9 RI9 HN.out)
      have UP := Lib.hid (show Dk.plan ⟨S, [], D.fails, D.stop, 0, false⟩ fs st = D.up ch fs st by rw [HSS.out]; rfl)
      rw [UP.out] at PC
      rw [← HPX.out]
      have y0 : w9.cell? ⟨px, 0, none⟩ = some (.slice A n c) := BX9.out.cell 0
      have y1 : w9.cell? ⟨px, 1, none⟩ = some (.int .i64 st) := BX9.out.cell 1
      clear T9 RI9 b2 b3 b6 z2 z3 z6 hpx
      go_wp2_with (go_at_call 17; ((with_reducible refine PC.out.mono ?_); rintro e w10 ⟨rfl, F1, t1, s1, m1⟩))
      go_end0
      exact ⟨rfl, F1, t1, fun b h => (s1 b h).imp id fun h => Nat.le_trans M9.out.size h, M9.out.trans m1 fun b h => .inl h⟩
end Go.Proofs.YtnoflgkjdibblaaGreatDoor.S19

/-
  What the landed disk.New does. No statement is proved here.
-/
namespace Go.Proofs.YtnoflgkjdibblaaGreatDoor.S19
set_option linter.unusedSimpArgs false
set_option linter.unusedVariables false
set_option maxRecDepth 8192
open Go.RowKit

theorem Tryz.infoSec : (Tryz.prog.info? 105).map (fun i => (i.zero, i.size, i.bytes)) = some (some (.agg (Array.replicate 64 (.int .u8 0))), 64, 64) := by kernel_rfl
theorem made_sectors (n : Nat) : madeCells (Value.agg (Array.replicate 64 (.int .u8 0))).cells (n * 64) = (rowsV (List.replicate n (List.replicate 64 0))).toArray := by
  rw [rowsV_zero]
  apply Array.ext'
  simp only [madeCells, Value.cells]
  rw [List.eq_replicate_iff]
  refine ⟨by simp; omega, fun b hb => ?_⟩
  simp at hb
  obtain ⟨x, hx, rfl⟩ := hb
  have : x % 64 < 64 := Nat.mod_lt _ (by decide)
  simp [this]
theorem run_make_sec (n : Nat) (hn : n ≤ 256) (w : World) : (Instr.makeSlice 76 (.int .i64 (n : Int)) (.int .i64 (n : Int))).run Tryz.prog w =
    .ok (.slice (some ⟨w.heap.size, 0, none⟩) n n) (w.alloc (.cells (rowsV (List.replicate n (List.replicate 64 0))).toArray 105)) := by
  obtain ⟨i0, hi, hz0, hz1, hz2⟩ := info_parts Tryz.infoSec
  have hr := run_makeSlice (P := Tryz.prog) (w := w) 76 105 i0 _ Tryz.underlying76 hi hz0 .i64 .i64 (n : Int) (n : Int) (by omega) (Int.le_refl _) (by rw [hz1]; simp; omega) (by rw [hz2]; omega) (by omega)
  simp only [Int.toNat_natCast] at hr
  rw [hz1, made_sectors] at hr
  exact hr
theorem new_fin (N : Nat) (w X : World) (k sb nb g g3 : Nat) (hN : N ≤ w.heap.size) (h1 : 1 ≤ k) (h2 : k ≤ 256) (hb : Below w.heap.size w X) (b1 : w.heap.size ≤ g3) (b2 : g3 < sb) (b3 : g3 < nb) (b4 : sb ≠ nb) (b5 : sb < g) (b6 : nb < g)
    (hs : Bk X sb 105 (rowsV (List.replicate k (List.replicate 64 0))).toArray) (hn : Bk X nb 105 (rowsV (List.replicate k (List.replicate 64 0))).toArray)
    (hg : Bk X g 79 #[.slice (some ⟨sb, 0, none⟩) k k, .slice (some ⟨nb, 0, none⟩) k k, .slice none 0 0, .int .i64 0, .slice none 0 0, .int .i64 0, .bool false]) :
    ∃ g' F, Ending.returned (Value.tuple #[.pointer (some ⟨g, 0, none⟩), .int .i64 0]) = .returned (.tuple #[.pointer (some ⟨g', 0, none⟩), .int .i64 0]) ∧ Kn N (X.setCell ⟨g3, 0, none⟩ (.int .i64 0)) g' (Dk.new k) F ∧ (∀ b, F b → w.heap.size ≤ b) ∧ Below w.heap.size w (X.setCell ⟨g3, 0, none⟩ (.int .i64 0)) := by
  have g1 := hg.lt
  refine ⟨g, fun b => b = g ∨ b = sb ∨ b = nb, rfl, ⟨Dk.new_ok h1 h2, ⟨sb, nb, .slice none 0 0, none, 0, 0, []⟩, ?_, ?_⟩, ?_, hb.setCell b1 _⟩
  · have e : (Dk.new k).sure.length = k := by simp [Dk.new]
    rw [e]
    exact hg.far (show g ≠ g3 by omega) _
  · refine ⟨hs.far (show sb ≠ g3 by omega) _, hn.far (show nb ≠ g3 by omega) _, ⟨rfl, .inl ⟨rfl, rfl⟩⟩, RI.nil_ _ _, Nat.zero_le _, fun z => Iff.rfl, List.Pairwise.nil, .inl rfl, .inr (.inl rfl), .inr (.inr rfl), fun b h => absurd h (by simp [Value.ownBlock]), fun a h => absurd h (Nat.lt_irrefl 0), fun b h => ?_, (show g ≠ sb by omega), (show g ≠ nb by omega), b4, fun b h => absurd h (by simp [Value.ownBlock]), fun a h => absurd h (Nat.lt_irrefl 0)⟩
    have : (X.setCell ⟨g3, 0, none⟩ (.int .i64 0)).heap.size = X.heap.size := by simp
    rw [this]
    omega
  · intro b h
    omega
set_option maxHeartbeats 4000000 in
theorem new_any (N : Nat) (w : World) (k : Nat) (hN : N ≤ w.heap.size) (h1 : 1 ≤ k) (h2 : k ≤ 256) :
    Calls Tryz.prog 6 #[.int .i64 (k : Int)] w fun e w' => ∃ g F, e = .returned (.tuple #[.pointer (some ⟨g, 0, none⟩), .int .i64 0]) ∧ Kn N w' g (Dk.new k) F ∧ (∀ b, F b → w.heap.size ≤ b) ∧ Below w.heap.size w w' := by
  have hmf : ∀ (fn : Fn) (first cap : Array Value) (w : World), (Instr.makeFunc fn first cap).run Tryz.prog w = .ok (.func fn first cap) w := fun _ _ _ _ => rfl
  have HN := Lib.hid (fun X => LV.need_yes 1 X)
  have u1 : (1 : Int) ≤ (k : Int) := by omega
  have u2 : (k : Int) ≤ 256 := by omega
  have hmk := run_make_sec k h2
  obtain ⟨Z, hZ⟩ : ∃ Z, Z = (rowsV (List.replicate k (List.replicate 64 0))).toArray := ⟨_, rfl⟩
  rw [← hZ] at hmk
  have HZ := Lib.hid hZ
  clear hZ
  go_enter_defers Tryz.func6, Tryz.ntmps6
  go_upto_region 3 with (go_at_call 30; ((with_reducible refine (HN.out _).mono ?_); rintro e w1 ⟨rfl, rfl⟩))
  (go_region_held3 (fun _ => True) (trivial) (fail))
  all_goals
    go_wp2_with (fail)
    refine dnew_ret rfl (y := 0) (Bk.drew (((Bk.newAt _ _ _ w.heap.size rfl).alloc _).alloc _ |>.alloc _)) rfl ?_
    first
      | exact new_fin N w _ k (w.heap.size + 1) (w.heap.size + 1 + 1) (w.heap.size + 1 + 1 + 1) w.heap.size hN h1 h2 (((((Below.refl _ _).alloc (Nat.le_refl _) _).alloc (by simp) _).alloc (by simp; omega) _).alloc (by simp; omega) _).drew (Nat.le_refl _) (by omega) (by omega) (by omega) (by omega) (by omega) (by rw [← HZ.out]; exact Bk.drew (((Bk.newAt _ _ _ _ (by simp)).alloc _).alloc _)) (by rw [← HZ.out]; exact Bk.drew ((Bk.newAt _ _ _ _ (by simp)).alloc _)) (Bk.drew (Bk.newAt _ _ _ _ (by simp)))
      | exact new_fin N w _ k (w.heap.size + 1 + 1) (w.heap.size + 1) (w.heap.size + 1 + 1 + 1) w.heap.size hN h1 h2 (((((Below.refl _ _).alloc (Nat.le_refl _) _).alloc (by simp) _).alloc (by simp; omega) _).alloc (by simp; omega) _).drew (Nat.le_refl _) (by omega) (by omega) (by omega) (by omega) (by omega) (by rw [← HZ.out]; exact Bk.drew ((Bk.newAt _ _ _ _ (by simp)).alloc _)) (by rw [← HZ.out]; exact Bk.drew (((Bk.newAt _ _ _ _ (by simp)).alloc _).alloc _)) (Bk.drew (Bk.newAt _ _ _ _ (by simp)))
set_option maxHeartbeats 1000000 in
theorem newNot_any (w : World) (k : Int) (hk : k < 1 ∨ 256 < k) :
    Calls Tryz.prog 6 #[.int .i64 k] w fun e w' => ∃ v, e = .returned (.tuple #[v, .int .i64 1]) ∧ Below w.heap.size w w' := by
  have hmf : ∀ (fn : Fn) (first cap : Array Value) (w : World), (Instr.makeFunc fn first cap).run Tryz.prog w = .ok (.func fn first cap) w := fun _ _ _ _ => rfl
  have HN := Lib.hid (fun X => LV.need_no 1 X)
  by_cases u1 : 1 ≤ k
  · have u2 : ¬ k ≤ 256 := by omega
    clear hk
    go_enter_defers Tryz.func6, Tryz.ntmps6
    go_wp2_with (go_at_call 30; ((with_reducible refine (HN.out _).mono ?_); rintro e w1 ⟨rfl, rfl⟩))
    exact dnew_bad rfl (y := 0) (Bk.newAt _ _ _ w.heap.size rfl) rfl fun w1 hb => ⟨_, rfl, (((Below.refl _ _).alloc (Nat.le_refl _) _).trans (hb.mono (by simp))).setCell (Nat.le_refl _) _⟩
  · clear hk
    go_enter_defers Tryz.func6, Tryz.ntmps6
    go_wp2_with (go_at_call 30; ((with_reducible refine (HN.out _).mono ?_); rintro e w1 ⟨rfl, rfl⟩))
    exact dnew_bad rfl (y := 0) (Bk.newAt _ _ _ w.heap.size rfl) rfl fun w1 hb => ⟨_, rfl, (((Below.refl _ _).alloc (Nat.le_refl _) _).trans (hb.mono (by simp))).setCell (Nat.le_refl _) _⟩
end Go.Proofs.YtnoflgkjdibblaaGreatDoor.S19

/-
  The contracts of the landed package disk as one.
-/
namespace Go.Proofs.YtnoflgkjdibblaaGreatDoor.S19
open Go.RowKit
/-- What the calls of the landed disk do. -/
def D0 : DC where
  ok := fun _ => True
  bel := fun _ _ => trivial
  Is := Kn
  okD := fun t => t.ok
  lt := fun t => t.lt
  keep := fun t hs hk => t.keep hs fun b hF hlt => hk b (.inr hF) hlt
  new := fun N w k _ hN h1 h2 => new_any N w k hN h1 h2
  newNot := fun w k _ hk _ _ => newNot_any w k hk
  plan := fun N w g D F A n c fs st _ t hr hn => (plan_any N w g D F A n c fs st t hr hn).mono fun _ _ ⟨h1, F', h2, h3, h4⟩ => ⟨h1, F', h2, fun b hb => (h3 b hb).imp id .inl, h4⟩
  read := fun N w g D F i _ t => read_any N w g D F i t
  write := fun N w g D F i A n c b _ t hr hap hc => write_any N w g D F i A n c b t hr hap hc
  flush := fun N w g D F _ t hc => flush_any N w g D F t hc
  stop := fun N w g D F _ t => stop_any N w g D F t
  up := fun N w g D F A' n' c' ch A n c fs st _ t hch hap hfs haf hn => (up_any N w g D F A' n' c' ch A n c fs st t hch hap hfs haf hn).mono fun _ _ ⟨h1, F', h2, h3, h4⟩ => ⟨h1, F', h2, fun b hb => (h3 b hb).imp id .inl, h4⟩
  sure := fun N w g D F _ t => sure_any N w g D F t
end Go.Proofs.YtnoflgkjdibblaaGreatDoor.S19

/-
  What the landed slots.New does. No statement is proved here.
-/
namespace Go.Proofs.YtnoflgkjdibblaaGreatDoor.S20
set_option linter.unusedSimpArgs false
set_option linter.unusedVariables false
set_option maxRecDepth 8192
open Go.RowKit S19

theorem snew_fin (N : Nat) (w w1 X : World) (g g3 s : Nat) (D : Dk) (F F1 : Nat → Prop) (first n : Nat) (hN : N ≤ w.heap.size) (hg3 : w.heap.size = g3) (k1 : Kn N w1 g D F1) (f1 : ∀ b, F1 b → F b ∨ g3 + 1 ≤ b) (m1 : Mv N F w w1) (hF : ¬ F g3) (hs : w1.heap.size = s)
    (hX : Below w1.heap.size w1 X) (hK : Bk X s 85 #[.pointer (some ⟨g, 0, none⟩), .int .i64 (first : Int), .int .i64 (n : Int), .int .u64 0, .slice none 0 0, .int .i64 0]) (h3 : g3 < w1.heap.size) :
    ∃ s' S F', Ending.returned (Value.tuple #[.pointer (some ⟨s, 0, none⟩), .int .i64 0]) = .returned (.tuple #[.pointer (some ⟨s', 0, none⟩), .int .i64 0]) ∧ Sz N (X.setCell ⟨g3, 0, none⟩ (.int .i64 0)) s' g (Sl.new first n) S ∧ Kn N (X.setCell ⟨g3, 0, none⟩ (.int .i64 0)) g D F' ∧ (∀ b, S b → w.heap.size ≤ b) ∧ (∀ b, F' b → F b ∨ w.heap.size ≤ b) ∧ (∀ b, F' b → ¬ S b) ∧ Mv N F w (X.setCell ⟨g3, 0, none⟩ (.int .i64 0)) := by
  have hsz := m1.size
  have h31 : ¬ F1 g3 := fun h => (f1 _ h).elim hF (by omega)
  refine ⟨s, fun b => b = s, F1, rfl, ⟨⟨none, 0, hK.far (show s ≠ g3 by omega) _, Rd.nil_ _, fun a h => absurd h (by show ¬ 0 < 0; omega)⟩, rfl, fun b e => ?_, by show 0 ≤ _; omega⟩, ?_, fun b e => ?_, fun b e => (f1 b e).imp id (by omega), fun b h e => ?_, ?_⟩
  · subst e
    exact ⟨by omega, by simpa using hK.lt⟩
  · exact (k1.below hX).keep (by simp) fun b hb _ => Below.heap_setCell _ ⟨g3, 0, none⟩ _ b fun e => h31 (by rw [e] at hb; exact hb)
  · subst e; omega
  · have := (k1.lt b h).2
    omega
  · have m2 : Mv N F w1 X := Mv.of (by omega) hX
    have m3 : Mv N (fun b => b = g3) X (X.setCell ⟨g3, 0, none⟩ (.int .i64 0)) := ⟨(Below.refl _ _).setCell (show N ≤ (⟨g3, 0, none⟩ : Addr).block from by show N ≤ g3; omega) _, fun b _ h => Below.heap_setCell _ ⟨g3, 0, none⟩ _ b h⟩
    exact (m1.trans m2 fun b h => .inl h).trans m3 fun b h => .inr (by omega)
set_option maxHeartbeats 4000000 in
theorem snew_any (N : Nat) (w : World) (g : Nat) (D : Dk) (F : Nat → Prop) (first n : Nat) (tk : Kn N w g D F) (hm : may D.sure.length first n = true) : Calls Tryz.prog 8 #[.pointer (some ⟨g, 0, none⟩), .int .i64 (first : Int), .int .i64 (n : Int)] w fun e w' =>
    ∃ s S F', e = .returned (.tuple #[.pointer (some ⟨s, 0, none⟩), .int .i64 0]) ∧ Sz N w' s g (Sl.new first n) S ∧ Kn N w' g D F' ∧ (∀ b, S b → w.heap.size ≤ b) ∧ (∀ b, F' b → F b ∨ w.heap.size ≤ b) ∧ (∀ b, F' b → ¬ S b) ∧ Mv N F w w' := by
  have hmf : ∀ (fn : Fn) (first cap : Array Value) (w : World), (Instr.makeFunc fn first cap).run Tryz.prog w = .ok (.func fn first cap) w := fun _ _ _ _ => rfl
  have HN := Lib.hid (fun X => LV.need_yes 1 X)
  have hm' := of_decide_eq_true hm
  have hmost := tk.ok.most
  obtain ⟨g3, hg3⟩ : ∃ g3, w.heap.size = g3 := ⟨_, rfl⟩
  obtain ⟨w0, hw0⟩ : ∃ w0, w.alloc (.cells #[.int .i64 0] 29) = w0 := ⟨_, rfl⟩
  have B0 := Lib.hid (show Below w.heap.size w w0 by rw [← hw0]; exact (Below.refl _ _).alloc (Nat.le_refl _) _)
  have S0 := Lib.hid (show w0.heap.size = g3 + 1 by rw [← hw0, ← hg3]; simp)
  have K3 := Lib.hid (show Bk w0 g3 29 #[.int .i64 0] by rw [← hw0]; exact Bk.newAt _ _ _ _ hg3)
  have hNN : N ≤ w.heap.size := by
    obtain ⟨ok, V, hb, r⟩ := tk
    have := r.gN g r.fg
    omega
  have hF3 : ¬ F g3 := fun h => by have := (tk.lt _ h).2; omega
  obtain ⟨k, hk⟩ : ∃ k, k = D.sure.length := ⟨_, rfl⟩
  have SU := Lib.hid (show Calls Tryz.prog 24 #[.pointer (some ⟨g, 0, none⟩)] w0 fun e w' => ∃ A c F1, e = .returned (.slice A k c) ∧ Kn N w' g D F1 ∧ (∀ b, F1 b → F b ∨ g3 + 1 ≤ b) ∧ Mv N F w0 w' from (sure_any N w0 g D F (tk.below B0.out)).mono fun e w' ⟨A, c, F', h1, _, h2, h3, h4⟩ => ⟨A, c, F', by rw [hk]; exact h1, h2, fun b hb => (h3 b hb).imp id (fun h => by rw [S0.out] at h; exact h), h4⟩)
  obtain ⟨p, hp⟩ : ∃ p, p = 2 * n := ⟨_, rfl⟩
  obtain ⟨q, hq⟩ : ∃ q, q = k - p := ⟨_, rfl⟩
  have u1 : (1 : Int) ≤ (n : Int) := by omega
  have u2 : (n : Int) ≤ 8 := by omega
  have p1 : (2 : Int) * (n : Int) = (p : Int) := by omega
  have q1 : (k : Int) - (p : Int) = (q : Int) := by omega
  have u3 : (first : Int) ≤ (q : Int) := by omega
  have bp : p ≤ 1000000 := by omega
  have bq : q ≤ 1000000 := by omega
  have z1 : wrap64 (p : Int) = (p : Int) := (wrap_nat p bp).1
  have z2 : wrap64 (q : Int) = (q : Int) := (wrap_nat q bq).1
  have HG := Lib.hid hg3
  have FIN := Lib.hid (fun w1 X s F1 k1 f1 m1 hs hX hK h3 => snew_fin N w w1 X g g3 s D F F1 first n hNN hg3 k1 f1 m1 hF3 hs hX hK h3)
  have HNN := Lib.hid hNN
  have HF3 := Lib.hid hF3
  clear hm hm' hmost hk hp hq bp bq tk hNN hF3
  go_enter_defers Tryz.func8, Tryz.ntmps8
  go_wp2_with (first
    | (go_at_call 30; ((with_reducible refine (HN.out _).mono ?_); rintro e w1 ⟨rfl, rfl⟩))
    | (go_at_call 24; ((with_reducible refine SU.out.mono ?_); rintro e w2 ⟨A2, c2, F2, rfl, k2, f2, m2⟩; have K2 := Lib.hid k2; have F2S := Lib.hid f2; have M2 := Lib.hid m2; have K32 := Lib.hid (m2.bk K3.out HF3.out); have M02 := Lib.hid (show Mv N F w w2 from (Mv.of HNN.out B0.out).trans m2 (fun b h => .inl h)); have L2 := Lib.hid (show g3 < w2.heap.size from K32.out.lt); obtain ⟨s, hs⟩ : ∃ s, w2.heap.size = s := ⟨_, rfl⟩; obtain ⟨w3, hw3⟩ : ∃ w3, w2.alloc (.cells #[.pointer (some ⟨g, 0, none⟩), .int .i64 (first : Int), .int .i64 (n : Int), .int .u64 0, .slice none 0 0, .int .i64 0] 85) = w3 := ⟨_, rfl⟩; have K4 := Lib.hid (show Bk w3 s 85 #[.pointer (some ⟨g, 0, none⟩), .int .i64 (first : Int), .int .i64 (n : Int), .int .u64 0, .slice none 0 0, .int .i64 0] by rw [← hw3]; exact Bk.newAt _ _ _ _ hs); have B4 := Lib.hid (show Below w2.heap.size w2 w3 by rw [← hw3]; exact (Below.refl _ _).alloc (Nat.le_refl _) _); have HS := Lib.hid hs; have K34 := Lib.hid (K32.out.below B4.out K32.out.lt); have i0 := cell_of_one K34.out; have i1 := free_of_one K34.out; clear k2 f2 m2)))
  refine snew_ret rfl (y := 0) (K34.out.put 0 _) rfl ?_
  have hX : (w3.setCell ⟨g3, 0, none⟩ (.int .i64 0)).setCell ⟨g3, 0, none⟩ (.int .i64 0) = w3.setCell ⟨g3, 0, none⟩ (.int .i64 0) := set_set _ _ _ _ _
  rw [hX]
  exact FIN.out w2 w3 s F2 K2.out F2S.out M02.out HS.out B4.out K4.out L2.out
end Go.Proofs.YtnoflgkjdibblaaGreatDoor.S20

/-
  What the landed slots.New does where there may be no slots. No statement is proved here.
-/
namespace Go.Proofs.YtnoflgkjdibblaaGreatDoor.S20
set_option linter.unusedSimpArgs false
set_option linter.unusedVariables false
set_option maxRecDepth 8192
open Go.RowKit S19

theorem snot_fin (N : Nat) (w w1 X : World) (g g3 : Nat) (D : Dk) (F F1 : Nat → Prop) (hN : N ≤ w.heap.size) (hg3 : w.heap.size = g3) (k1 : Kn N w1 g D F1) (f1 : ∀ b, F1 b → F b ∨ g3 + 1 ≤ b) (m1 : Mv N F w w1) (hF : ¬ F g3) (hX : Below w1.heap.size w1 X) :
    ∃ F', Kn N (X.setCell ⟨g3, 0, none⟩ (.int .i64 1)) g D F' ∧ (∀ b, F' b → F b ∨ w.heap.size ≤ b) ∧ Mv N F w (X.setCell ⟨g3, 0, none⟩ (.int .i64 1)) := by
  have hsz := m1.size
  have h31 : ¬ F1 g3 := fun h => (f1 _ h).elim hF (by omega)
  refine ⟨F1, ?_, fun b e => (f1 b e).imp id (by omega), ?_⟩
  · exact (k1.below hX).keep (by simp) fun b hb _ => Below.heap_setCell _ ⟨g3, 0, none⟩ _ b fun e => h31 (by rw [e] at hb; exact hb)
  · have m2 : Mv N F w1 X := Mv.of (by omega) hX
    have m3 : Mv N (fun b => b = g3) X (X.setCell ⟨g3, 0, none⟩ (.int .i64 1)) := ⟨(Below.refl _ _).setCell (show N ≤ (⟨g3, 0, none⟩ : Addr).block from by show N ≤ g3; omega) _, fun b _ h => Below.heap_setCell _ ⟨g3, 0, none⟩ _ b h⟩
    exact (m1.trans m2 fun b h => .inl h).trans m3 fun b h => .inr (by omega)
set_option maxHeartbeats 4000000 in
theorem snewNot_any (N : Nat) (w : World) (g : Nat) (D : Dk) (F : Nat → Prop) (first n : Int) (tk : Kn N w g D F) (hm : may D.sure.length first n = false) : Calls Tryz.prog 8 #[.pointer (some ⟨g, 0, none⟩), .int .i64 first, .int .i64 n] w fun e w' =>
    e = .returned (.tuple #[.pointer none, .int .i64 1]) ∧ ∃ F', Kn N w' g D F' ∧ (∀ b, F' b → F b ∨ w.heap.size ≤ b) ∧ Mv N F w w' := by
  have hmf : ∀ (fn : Fn) (first cap : Array Value) (w : World), (Instr.makeFunc fn first cap).run Tryz.prog w = .ok (.func fn first cap) w := fun _ _ _ _ => rfl
  have HY := Lib.hid (fun X => LV.need_yes 1 X)
  have HN := Lib.hid (fun X => LV.need_no 1 X)
  have hm' := of_decide_eq_false hm
  have hmost := tk.ok.most
  obtain ⟨g3, hg3⟩ : ∃ g3, w.heap.size = g3 := ⟨_, rfl⟩
  obtain ⟨w0, hw0⟩ : ∃ w0, w.alloc (.cells #[.int .i64 0] 29) = w0 := ⟨_, rfl⟩
  have B0 := Lib.hid (show Below w.heap.size w w0 by rw [← hw0]; exact (Below.refl _ _).alloc (Nat.le_refl _) _)
  have S0 := Lib.hid (show w0.heap.size = g3 + 1 by rw [← hw0, ← hg3]; simp)
  have K3 := Lib.hid (show Bk w0 g3 29 #[.int .i64 0] by rw [← hw0]; exact Bk.newAt _ _ _ _ hg3)
  have hNN : N ≤ w.heap.size := by
    obtain ⟨ok, V, hb, r⟩ := tk
    have := r.gN g r.fg
    omega
  have hF3 : ¬ F g3 := fun h => by have := (tk.lt _ h).2; omega
  obtain ⟨k, hk⟩ : ∃ k, k = D.sure.length := ⟨_, rfl⟩
  have SU := Lib.hid (show Calls Tryz.prog 24 #[.pointer (some ⟨g, 0, none⟩)] w0 fun e w' => ∃ A c F1, e = .returned (.slice A k c) ∧ Kn N w' g D F1 ∧ (∀ b, F1 b → F b ∨ g3 + 1 ≤ b) ∧ Mv N F w0 w' from (sure_any N w0 g D F (tk.below B0.out)).mono fun e w' ⟨A, c, F', h1, _, h2, h3, h4⟩ => ⟨A, c, F', by rw [hk]; exact h1, h2, fun b hb => (h3 b hb).imp id (fun h => by rw [S0.out] at h; exact h), h4⟩)
  have M0 := Lib.hid (show Mv N F w w0 from Mv.of hNN B0.out)
  have FIN := Lib.hid (fun w1 F1 k1 f1 m1 X hX => snot_fin N w w1 X g g3 D F F1 hNN hg3 k1 f1 m1 hF3 hX)
  have F0 := Lib.hid (fun X hX => FIN.out w0 F (tk.below B0.out) (fun b h => .inl h) M0.out X hX)
  have HF3 := Lib.hid hF3
  by_cases u1 : 1 ≤ n
  · by_cases u2 : n ≤ 8
    · by_cases u3 : 0 ≤ first
      · obtain ⟨nn, hnn⟩ : ∃ nn : Nat, n = (nn : Int) := ⟨n.toNat, by omega⟩
        subst hnn
        obtain ⟨p, hp⟩ : ∃ p, p = 2 * nn := ⟨_, rfl⟩
        have p1 : (2 : Int) * (nn : Int) = (p : Int) := by omega
        have bp : p ≤ 1000000 := by omega
        obtain ⟨q, hq⟩ : ∃ q : Int, q = (k : Int) - (p : Int) := ⟨_, rfl⟩
        have u4 : ¬ first ≤ q := by omega
        have u5 : decide (first ≤ q) = false := decide_eq_false u4
        have bq : -1000 ≤ q ∧ q ≤ 1000 := by omega
        have q1 : (k : Int) - (p : Int) = q := hq.symm
        have z1 : wrap64 (p : Int) = (p : Int) := (wrap_nat p bp).1
        have z2 : wrap64 q = q := by unfold wrap64; omega
        clear hp bp hq bq
        clear hm hm' hmost hk tk hNN hF3
        go_enter_defers Tryz.func8, Tryz.ntmps8
        go_wp2_with (first
          | (go_at_call 30; ((with_reducible refine (HY.out _).mono ?_); rintro e w1 ⟨rfl, rfl⟩))
          | (go_at_call 30; ((with_reducible refine (HN.out _).mono ?_); rintro e w1 ⟨rfl, rfl⟩))
          | (go_at_call 24; ((with_reducible refine SU.out.mono ?_); rintro e w2 ⟨A2, c2, F2, rfl, k2, f2, m2⟩; have K2 := Lib.hid k2; have F2S := Lib.hid f2; have M2 := Lib.hid m2; have K32 := Lib.hid (m2.bk K3.out HF3.out); have M02 := Lib.hid (show Mv N F w w2 from M0.out.trans m2 (fun b h => .inl h)); clear k2 f2 m2)))
        refine snew_bad rfl (y := 0) K32.out rfl fun w1 hb => ?_
        exact ⟨rfl, FIN.out w2 F2 K2.out F2S.out M02.out w1 hb⟩
      · have u4 : ¬ 0 ≤ first := u3
        clear hm hm' hmost hk tk hNN hF3
        go_enter_defers Tryz.func8, Tryz.ntmps8
        go_wp2_with (first
          | (go_at_call 30; ((with_reducible refine (HY.out _).mono ?_); rintro e w1 ⟨rfl, rfl⟩))
          | (go_at_call 30; ((with_reducible refine (HN.out _).mono ?_); rintro e w1 ⟨rfl, rfl⟩)))
        refine snew_bad rfl (y := 0) K3.out rfl fun w1 hb => ?_
        exact ⟨rfl, F0.out w1 hb⟩
    · clear hm hm' hmost hk tk hNN hF3
      go_enter_defers Tryz.func8, Tryz.ntmps8
      go_wp2_with (first
        | (go_at_call 30; ((with_reducible refine (HY.out _).mono ?_); rintro e w1 ⟨rfl, rfl⟩))
        | (go_at_call 30; ((with_reducible refine (HN.out _).mono ?_); rintro e w1 ⟨rfl, rfl⟩)))
      refine snew_bad rfl (y := 0) K3.out rfl fun w1 hb => ?_
      exact ⟨rfl, F0.out w1 hb⟩
  · clear hm hm' hmost hk tk hNN hF3
    go_enter_defers Tryz.func8, Tryz.ntmps8
    go_wp2_with (first
      | (go_at_call 30; ((with_reducible refine (HY.out _).mono ?_); rintro e w1 ⟨rfl, rfl⟩))
      | (go_at_call 30; ((with_reducible refine (HN.out _).mono ?_); rintro e w1 ⟨rfl, rfl⟩)))
    refine snew_bad rfl (y := 0) K3.out rfl fun w1 hb => ?_
    exact ⟨rfl, F0.out w1 hb⟩
end Go.Proofs.YtnoflgkjdibblaaGreatDoor.S20
