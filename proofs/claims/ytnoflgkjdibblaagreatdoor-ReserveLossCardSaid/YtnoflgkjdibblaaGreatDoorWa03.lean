/-
  Texts put together: Turn2. No statement is proved here.
-/
import Derived.Test.YtnoflgkjdibblaaGreatDoorWa02

/-
  What sha2.Turn does: one block turns a state; sha2.K.
-/
namespace Go.Proofs.YtnoflgkjdibblaaGreatDoor.S2
set_option linter.unusedSimpArgs false
set_option linter.unusedVariables false
set_option maxRecDepth 1024
open Go.RowKit

/-- A state as values. -/
abbrev sA (s : St) : Array Value := #[.int .u32 (s.a.toNat : Int), .int .u32 (s.b.toNat : Int), .int .u32 (s.c.toNat : Int), .int .u32 (s.d.toNat : Int), .int .u32 (s.e.toNat : Int), .int .u32 (s.f.toNat : Int), .int .u32 (s.g.toNat : Int), .int .u32 (s.h.toNat : Int)]
theorem Tryz.info8 : (Tryz.prog.info? 168).map (·.size) = some 8 := by kernel_rfl
theorem sA_one (s : St) : (sA s).all (·.oneCell') = true := by simp [Value.oneCell']
/-- The constants of the rounds lie in their variable. -/
def KOk (w : World) : Prop := ∀ i, i < 64 → w.cell? ⟨1, i, none⟩ = some (.int .u32 ((kT.getD i 0).toNat : Int))
theorem KOk.below {w w' : World} {B : Nat} (h : KOk w) (hB : w.heap.size ≤ B) (hb : Below B w w') : KOk w' := fun i hi => by
  have h0 := h i hi
  rw [hb.cell (Nat.lt_of_lt_of_le (World.block_lt_of_cell? w _ h0) hB)]
  exact h0
theorem u32_not (x : UInt32) : bits .xor .u32 (if IntKind.u32.signed = true then -1 else IntKind.u32.max) (x.toNat : Int) = ((no x).toNat : Int) := by
  have h := u32_bxor 4294967295 x
  have e : xo 4294967295 x = no x := by
    unfold xo no
    exact UInt32.neg_one_xor
  rw [e] at h
  rw [← h]
  rfl
attribute [local go_sem] u32_add u32_band u32_bxor u32_not
set_option maxRecDepth 100000 in
set_option maxHeartbeats 2000000 in
theorem turn_any (s : St) (xs : List UInt8) (w : World) (hx : xs.length = 64) (hk : KOk w) :
    Calls Tryz.prog 124 #[.agg (sA s), .agg (bv xs).toArray] w fun e w' => e = .returned (.agg (sA (turn s xs))) ∧ Below w.heap.size w w' := by
  have HX := Lib.hid hx
  have HBS := Lib.hid (show (bv xs).toArray.size = 64 by simp [bv, hx])
  have HWS := Lib.hid (show (uA (wds xs)).size = 64 by rw [uA_size, wds_length])
  clear hx
  obtain ⟨cs, hcs⟩ : ∃ cs, cs = (bv xs).toArray := ⟨_, rfl⟩
  rw [← hcs]
  rw [← hcs] at HBS
  have hB1 : ∀ o, Bk (((w.alloc (.cells (sA s) 168)).alloc (.cells cs 104)).alloc o) (w.heap.size + 1) 104 cs := fun o => (Bk.newAt _ _ _ _ (by simp)).alloc _
  have hcall : ∀ W, Calls Tryz.prog 130 #[.agg cs] W fun e w' => e = .returned (.agg (uA (wds xs))) ∧ Below W.heap.size W w' := fun W => by rw [hcs]; exact words_any xs W HX.out
  have HC := Lib.hid hcall
  have HB1 := Lib.hid hB1
  have HCS := Lib.hid hcs
  clear hcs hcall hB1
  go_enter Tryz.func124, Tryz.ntmps124
  go_wp2_with (first
    | (refine wpList_load_row rfl 104 _ rfl (w.heap.size + 1) rfl 104 cs (0, 0) _ (HB1.out _) Tryz.underlying104 rfl (by rw [HBS.out]; kernel_rfl) ?_)
    | (go_at_call 130; refine (HC.out _).mono ?_; rintro e w1 ⟨rfl, hb1⟩)
    | (refine wpList_store_row rfl 181 _ _ rfl w1.heap.size (uA (wds xs)) rfl rfl 181 _ (Bk.newAt _ _ _ _ rfl) (by rw [HWS.out]; kernel_rfl) (by rw [HWS.out]; rfl) (uA_one _) ?_; rw [World.setRow_alloc_new]))
  have b0 : Bk (w1.alloc (.cells (uA (wds xs)) 181)) w.heap.size 168 (sA s) := ((((Bk.newAt w _ _ _ rfl).alloc _).alloc _).below hb1 (by simp; omega)).alloc _
  obtain ⟨z, bz⟩ : ∃ z : Array Value, z.size = 8 ∧ Bk (w1.alloc (.cells (uA (wds xs)) 181)) (w.heap.size + 1 + 1) 168 z := ⟨_, rfl, ((Bk.newAt _ _ _ _ (by simp)).below hb1 (by simp)).alloc _⟩
  have bw : Bk (w1.alloc (.cells (uA (wds xs)) 181)) w1.heap.size 181 (uA (wds xs)) := Bk.newAt _ _ _ _ rfl
  have hz1 : w.heap.size + 1 + 1 + 1 ≤ w1.heap.size := by have := hb1.size; simp at this; omega
  have hB : Below w.heap.size w (w1.alloc (.cells (uA (wds xs)) 181)) := ((((((Below.refl _ _).alloc (Nat.le_refl _) _).alloc (by simp) _).alloc (by simp; omega) _).trans (hb1.mono (by simp; omega))).alloc (by omega) _)
  have HK := Lib.hid (hk.below (Nat.le_refl _) hB)
  obtain ⟨w2, hw2⟩ : ∃ w2, w2 = w1.alloc (.cells (uA (wds xs)) 181) := ⟨_, rfl⟩
  rw [← hw2] at b0 bz bw hB HK
  rw [← hw2]
  clear hw2 hb1 hk
  obtain ⟨hzs, bz⟩ := bz
  have HZ := Lib.hid hzs
  clear hzs
  obtain ⟨B1, hB1⟩ : ∃ B1, B1 = w1.heap.size := ⟨_, rfl⟩
  rw [← hB1] at bw hz1
  rw [← hB1]
  clear hB1
  have c0 : w2.cell? ⟨w.heap.size, 0, none⟩ = some (.int .u32 (s.a.toNat : Int)) := b0.cell 0
  have c1 : w2.cell? ⟨w.heap.size, 1, none⟩ = some (.int .u32 (s.b.toNat : Int)) := b0.cell 1
  have c2 : w2.cell? ⟨w.heap.size, 2, none⟩ = some (.int .u32 (s.c.toNat : Int)) := b0.cell 2
  have c3 : w2.cell? ⟨w.heap.size, 3, none⟩ = some (.int .u32 (s.d.toNat : Int)) := b0.cell 3
  have c4 : w2.cell? ⟨w.heap.size, 4, none⟩ = some (.int .u32 (s.e.toNat : Int)) := b0.cell 4
  have c5 : w2.cell? ⟨w.heap.size, 5, none⟩ = some (.int .u32 (s.f.toNat : Int)) := b0.cell 5
  have c6 : w2.cell? ⟨w.heap.size, 6, none⟩ = some (.int .u32 (s.g.toNat : Int)) := b0.cell 6
  have c7 : w2.cell? ⟨w.heap.size, 7, none⟩ = some (.int .u32 (s.h.toNat : Int)) := b0.cell 7
  go_quiet (fail)
  go_wp2
  go_quiet (fail)
  go_wp2
  go_loopw [6, 7, 8, 9, 10, 11, 12, 13, 35] (fun va vb vc vd ve vf vg vh vi wr => ∃ (k : Nat) (r : St), k ≤ 64 ∧ Hid (r = rnds (wds xs) s k) ∧ vi = .int .i64 (k : Int) ∧ va = .int .u32 (r.a.toNat : Int) ∧ vb = .int .u32 (r.b.toNat : Int) ∧ vc = .int .u32 (r.c.toNat : Int) ∧ vd = .int .u32 (r.d.toNat : Int) ∧
      ve = .int .u32 (r.e.toNat : Int) ∧ vf = .int .u32 (r.f.toNat : Int) ∧ vg = .int .u32 (r.g.toNat : Int) ∧ vh = .int .u32 (r.h.toNat : Int) ∧ Hid (KOk wr) ∧ Below w.heap.size w wr ∧ Bk wr w.heap.size 168 (sA s) ∧ Bk wr (w.heap.size + 1 + 1) 168 z ∧ Bk wr B1 181 (uA (wds xs)))
    (fun _ _ _ _ _ _ _ _ i _ => 64 - (intOf i).toNat)
  case atStart => exact ⟨0, s, by omega, rfl, rfl, rfl, rfl, rfl, rfl, rfl, rfl, rfl, rfl, HK, below_drewN (below_drewN hB _) _, b0, bz, bw⟩
  case round =>
    obtain ⟨k, r, hk, HR, rfl, rfl, rfl, rfl, rfl, rfl, rfl, rfl, rfl, HK, hB, b0, bz, bw⟩ := hrel
    clear c0 c1 c2 c3 c4 c5 c6 c7
    by_cases hlt : k < 64
    · obtain ⟨kk, hkk⟩ : ∃ v, v = kT.getD k 0 := ⟨_, rfl⟩
      obtain ⟨ww, hww⟩ : ∃ v, v = (wds xs).getD k 0 := ⟨_, rfl⟩
      have ck := HK.out k hlt
      have cw := (bw.cell k).trans (uA_get _ k (by rw [wds_length]; exact hlt))
      have HR' : Hid (r.step kk ww = rnds (wds xs) s (k + 1)) := by show _ = _; rw [rnds, ← HR.out, hkk, hww]
      rw [← hkk] at ck
      rw [← hww] at cw
      clear hkk hww
      have i2 : (k : Int) < 64 := by omega
      go_wp2
      go_quiet ((go_at_call 131; exact quiet_l (mixE_any _ _)))
      go_wp2_with (go_at_call 132; refine (mixA_any _ _).mono ?_; rintro e w' ⟨rfl, rfl⟩)
      go_roundw
      case rel => exact ⟨k + 1, r.step kk ww, by omega, HR', by go_num, rfl, rfl, rfl, rfl, rfl, rfl, rfl, rfl, HK, below_drewN hB _, b0, bz, bw⟩
      case measure => simp [intOf]; omega
    · obtain rfl : k = 64 := by omega
      have c0 : wr.cell? ⟨w.heap.size, 0, none⟩ = some (.int .u32 (s.a.toNat : Int)) := b0.cell 0
      have c1 : wr.cell? ⟨w.heap.size, 1, none⟩ = some (.int .u32 (s.b.toNat : Int)) := b0.cell 1
      have c2 : wr.cell? ⟨w.heap.size, 2, none⟩ = some (.int .u32 (s.c.toNat : Int)) := b0.cell 2
      have c3 : wr.cell? ⟨w.heap.size, 3, none⟩ = some (.int .u32 (s.d.toNat : Int)) := b0.cell 3
      have c4 : wr.cell? ⟨w.heap.size, 4, none⟩ = some (.int .u32 (s.e.toNat : Int)) := b0.cell 4
      have c5 : wr.cell? ⟨w.heap.size, 5, none⟩ = some (.int .u32 (s.f.toNat : Int)) := b0.cell 5
      have c6 : wr.cell? ⟨w.heap.size, 6, none⟩ = some (.int .u32 (s.g.toNat : Int)) := b0.cell 6
      have c7 : wr.cell? ⟨w.heap.size, 7, none⟩ = some (.int .u32 (s.h.toNat : Int)) := b0.cell 7
      go_wp2_with (refine wpList_store_row rfl 168 _ _ rfl (w.heap.size + 1 + 1) (sA (s.add r)) rfl rfl 168 z bz Tryz.info8 (by rw [HZ.out]; rfl) (sA_one _) ?_)
      refine bodyPost_ret (results_cell_row rfl _ _ (w.heap.size + 1 + 1) 168 (sA (s.add r)) (0, 0) _ rfl (bz.row _) Tryz.underlying168 rfl Tryz.info8) rfl ⟨?_, below_setRow hB (by omega) _⟩
      have := HR.out
      rw [turn, ← this]
end Go.Proofs.YtnoflgkjdibblaaGreatDoor.S2
