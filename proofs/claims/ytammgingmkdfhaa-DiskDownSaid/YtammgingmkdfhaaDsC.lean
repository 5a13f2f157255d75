/-
  What the landed Sure does. No statement is proved here.
-/
import Derived.Test.YtammgingmkdfhaaDsB
namespace Go.Proofs.Ytammgingmkdfhaa.S19
set_option linter.unusedSimpArgs false
set_option linter.unusedVariables false
set_option maxRecDepth 8192
open Go.RowKit

theorem Try.infoBsK : (Try.prog.info? 30).map (fun i => (i.zero, i.size, i.bytes)) = some (some (.slice none 0 0), 1, 24) := by kernel_rfl
theorem run_make_rows (n : Nat) (hn : n ≤ 256) (w : World) : (Instr.makeSlice 38 (.int .i64 (n : Int)) (.int .i64 (n : Int))).run Try.prog w =
    .ok (.slice (some ⟨w.heap.size, 0, none⟩) n n) (w.alloc (.cells (List.replicate n (Value.slice none 0 0)).toArray 30)) := by
  obtain ⟨i0, hi, hz0, hz1, hz2⟩ := info_parts Try.infoBsK
  have hr := run_makeSlice (P := Try.prog) (w := w) 38 30 i0 _ Try.underlying38 hi hz0 .i64 .i64 (n : Int) (n : Int) (by omega) (Int.le_refl _) (by rw [hz1]; simp; omega) (by rw [hz2]; omega) (by omega)
  simp only [Int.toNat_natCast] at hr
  rw [hz1, Nat.mul_one] at hr
  have e : madeCells (Value.slice none 0 0).cells n = (List.replicate n (Value.slice none 0 0)).toArray := by
    apply Array.ext'
    rw [show (Value.slice none 0 0).cells = #[Value.slice none 0 0] from rfl, toList_madeCells_one]
  rw [e] at hr
  exact hr
/-- So many rows of what is sure are gathered. -/
structure Gs (w : World) (ob k i : Nat) (s : List (List UInt8)) (vs : List Value) (X : World) : Prop where
  bel : Below w.heap.size w X
  blk : Bk X ob 30 vs.toArray
  len : vs.length = k
  row : ∀ j, j < i → ∃ A c, vs[j]? = some (.slice A 64 c) ∧ Rd X A 64 c (s.getD j []) ∧ ∀ a, A = some a → w.heap.size ≤ a.block ∧ a.block ≠ ob
theorem Gs.step {w X X5 : World} {ob k i : Nat} {s : List (List UInt8)} {vs : List Value} (h : Gs w ob k i s vs X) (hi : i < k) (hob : w.heap.size ≤ ob) (hb : Below X.heap.size X X5) {A : Option Addr} {c : Nat} (hr : Rd X5 A 64 c (s.getD i [])) (ha : ∀ a, A = some a → X.heap.size ≤ a.block) :
    Gs w ob k (i + 1) s (vs.set i (.slice A 64 c)) (X5.setCell ⟨ob, i, none⟩ (.slice A 64 c)) := by
  have hol := h.blk.lt
  have hk : ∀ (B : Option Addr) (d : Nat) (xs : List UInt8), Rd X5 B 64 d xs → (∀ a, B = some a → a.block ≠ ob) → Rd (X5.setCell ⟨ob, i, none⟩ (.slice A 64 c)) B 64 d xs := fun B d xs hr hB => by
    refine ⟨hr.len, hr.cap, hr.max, hr.nil, fun hn => ?_⟩
    obtain ⟨b, off, rfl, hb, hc⟩ := hr.at_ hn
    exact ⟨b, off, rfl, by simpa using hb, fun j hj => (World.cell?_of_block (a := ⟨b, off + j, none⟩) (Below.heap_setCell X5 ⟨ob, i, none⟩ _ b (hB _ rfl))).trans (hc j hj)⟩
  refine ⟨(h.bel.trans (hb.mono h.bel.size)).setCell hob _, ?_, by simp [h.len], fun j hj => ?_⟩
  · have := (h.blk.below hb hol).put i (.slice A 64 c)
    simpa using this
  · rcases Nat.lt_or_ge j i with h1 | h1
    · obtain ⟨B, d, e1, e2, e3⟩ := h.row j h1
      refine ⟨B, d, by rw [List.getElem?_set_ne (by omega)]; exact e1, hk B d _ (e2.below hb) (fun a e => (e3 a e).2), e3⟩
    · obtain rfl : j = i := by omega
      exact ⟨A, c, by rw [List.getElem?_set_self (by rw [h.len]; exact hi)], hk A c _ hr (fun a e => by have := ha a e; omega), fun a e => by have := ha a e; have := h.bel.size; omega⟩
set_option maxHeartbeats 8000000 in
theorem sure_any (N : Nat) (w : World) (g : Nat) (D : Dk) (F : Nat → Prop) (t : Kn N w g D F) : Calls Try.prog 13 #[.pointer (some ⟨g, 0, none⟩)] w fun e w' =>
    ∃ A c F', e = .returned (.slice A D.sure.length c) ∧ Rs w' (fun b => w.heap.size ≤ b ∧ ¬ F' b) A D.sure.length c D.sure ∧ Kn N w' g D F' ∧ (∀ b, F' b → F b ∨ w.heap.size ≤ b) ∧ Mv N F w w' := by
  have T := Lib.hid t
  obtain ⟨ok, V, hb, r⟩ := t
  obtain ⟨k, hk⟩ : ∃ k, k = D.sure.length := ⟨_, rfl⟩
  have k256 : k ≤ 256 := by rw [hk]; exact ok.most
  have hmk := run_make_rows k k256
  rw [← hk] at hb
  have c0 : w.cell? ⟨g, 0, none⟩ = some (.slice (some ⟨V.sb, 0, none⟩) k k) := hb.cell 0
  have C0 := Lib.hid (show ∀ X, Below w.heap.size w X → X.cell? ⟨g, 0, none⟩ = some (.slice (some ⟨V.sb, 0, none⟩) k k) from fun X hX => (hb.below hX hb.lt).cell 0)
  have RS := Lib.hid (show ∀ X m, Below w.heap.size w X → m < k → Rd X (some ⟨V.sb, m * 64, none⟩) 64 64 (D.sure.getD m []) from fun X m hX hm => (rd_sector r.sure ok.rows (by omega) rfl).below hX)
  have GL := Lib.hid (r.gN g r.fg)
  have HK := Lib.hid hk
  have CL := Lib.hid (fun A n c xs X h h2 => clone_bs A n c xs X h h2)
  obtain ⟨ob, hob⟩ : ∃ ob, ob = w.heap.size := ⟨_, rfl⟩
  have HOB := Lib.hid hob
  have G0 := Lib.hid (show Gs w ob k 0 D.sure (List.replicate k (Value.slice none 0 0)) (w.alloc (.cells (List.replicate k (Value.slice none 0 0)).toArray 30)) from ⟨(Below.refl _ _).alloc (Nat.le_refl _) _, Bk.newAt _ _ _ _ hob.symm, by simp, fun j h => absurd h (by omega)⟩)
  have K256 := Lib.hid k256
  clear hb r ok hk k256
  generalize List.replicate k (Value.slice none 0 0) = Z at *
  go_enter Try.func13, Try.ntmps13
  go_upto_region 3 with (fail)
  go_loopw [13] (fun iv wr => ∃ (i : Nat) (vs : List Value), i ≤ k ∧ iv = .int .i64 (i : Int) ∧ Gs w ob k i D.sure vs wr)
    (fun iv _ => k - (intOf iv).toNat)
  case atStart => exact ⟨0, Z, Nat.zero_le _, rfl, G0.out⟩
  case round =>
    obtain ⟨i, vs, hik, rfl, hG⟩ := hrel
    have GR := Lib.hid hG
    have c1 : wr.cell? ⟨g, 0, none⟩ = some (.slice (some ⟨V.sb, 0, none⟩) k k) := C0.out wr hG.bel
    clear hG c0 hmk
    by_cases hlt : i < k
    · have t0 : (i : Int) < (k : Int) := by omega
      have HLT := Lib.hid hlt
      have e1 : wrap64 ((i : Int) + 1) = (i : Int) + 1 := by unfold wrap64; have := K256.out; omega
      obtain ⟨u5, hu5⟩ : ∃ u, vs.toArray[i]? = some u := ⟨vs[i]'(by rw [GR.out.len]; exact hlt), by rw [List.getElem?_toArray, List.getElem?_eq_getElem]⟩
      have HU5 := Lib.hid hu5
      clear hu5 hlt
      go_upto_region 6 with (first
        | (go_at_call 30; ((with_reducible refine (CL.out _ _ _ _ _ (RS.out _ i GR.out.bel HLT.out) (by decide)).mono ?_); rintro e w5 ⟨A5, c5, rfl, o5, b5⟩; have O5 := Lib.hid o5; have B5 := Lib.hid b5; have K5 := Lib.hid (GR.out.blk.below b5 GR.out.blk.lt); have k5 : w5.cell? ⟨w.heap.size, i, none⟩ = some u5 := (by rw [← HOB.out]; exact (K5.out.cell i).trans HU5.out); have z5 : w5.frozen? ⟨w.heap.size, i, none⟩ = false := (by rw [← HOB.out]; exact K5.out.frozen i); clear o5 b5)))
      go_wp2_with (fail)
      go_roundw
      case rel =>
        refine ⟨i + 1, vs.set i (.slice A5 64 c5), HLT.out, by go_num, ?_⟩
        rw [← HOB.out]
        exact GR.out.step HLT.out (by rw [HOB.out]; exact Nat.le_refl _) B5.out (Rd.own O5.out) (fun a e => (O5.out.lt a.block (by rw [e]; rfl)).1)
      case measure =>
        have h := HLT.out
        rw [e1]
        show k - (intOf (.int .i64 ((i : Int) + 1))).toNat < k - (intOf (.int .i64 (i : Int))).toNat
        have h1 : (intOf (.int .i64 ((i : Int) + 1))).toNat = i + 1 := by simp only [intOf]; omega
        have h2 : (intOf (.int .i64 (i : Int))).toNat = i := by simp only [intOf]; omega
        rw [h1, h2]
        omega
    · obtain rfl : i = k := by omega
      have t0 : ¬ (i : Int) < (i : Int) := by omega
      go_wp2_with (fail)
      go_ret
      rw [← HK.out]
      refine ⟨some ⟨w.heap.size, 0, none⟩, i, rfl, F, ?_, T.out.below GR.out.bel, fun b h => .inl h, Mv.of (by have := GL.out; omega) GR.out.bel⟩
      have hl := GR.out.blk.lt
      refine ⟨HK.out.symm, Nat.le_refl _, by simp only [maxLen]; have := K256.out; omega, fun e => (by cases e), fun hn => ⟨w.heap.size, 0, rfl, (by rw [← HOB.out]; exact hl), ⟨Nat.le_refl _, fun h => Nat.lt_irrefl _ (T.out.lt _ h).2⟩, fun j hj => ?_⟩⟩
      obtain ⟨A, c, e1, e2, e3⟩ := GR.out.row j hj
      refine ⟨A, 64, c, ?_, e2, fun a _ h => ⟨(e3 a h).1, fun hF => by have := (T.out.lt _ hF).2; have := (e3 a h).1; omega⟩⟩
      rw [← HOB.out, Nat.zero_add]
      exact (GR.out.blk.cell j).trans (by rw [List.getElem?_toArray]; exact e1)
end Go.Proofs.Ytammgingmkdfhaa.S19
