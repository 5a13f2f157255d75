/-
  Texts put together: RTurn. No statement is proved here.
-/
import Derived.Test.YtnoflgkjdibblaaGreatDoorWb03
import Derived.Test.YtnoflgkjdibblaaGreatDoorWb04

/-
  What the document's own call of one block does: constants, Turn, K.
-/
namespace Go.Proofs.YtnoflgkjdibblaaGreatDoor.S2
set_option linter.unusedSimpArgs false
set_option linter.unusedVariables false
set_option maxRecDepth 1024
open Go.RowKit

theorem Tryz.info64 : (Tryz.prog.info? 181).map (·.size) = some 64 := by kernel_rfl
theorem kN_word : ∀ z ∈ kN, ((UInt32.ofNat z.toNat).toNat : Int) = z := by decide +kernel
theorem kT_cells : uA kT = (kN.map fun z => Value.int .u32 z).toArray := by
  unfold uA uv kT
  rw [List.map_map]
  refine congrArg List.toArray ?_
  exact List.map_congr_left fun z hz => by simp only [Function.comp]; rw [kN_word z hz]
set_option maxRecDepth 100000 in
theorem rconst_any (w : World) : Calls Tryz.prog 127 #[] w fun e w' => e = .returned (.agg (uA kT)) ∧ Below w.heap.size w w' := by
  have HS := Lib.hid (show (uA kT).size = 64 by rw [uA_size]; rfl)
  obtain ⟨cs, hcs⟩ : ∃ cs, cs = uA kT := ⟨_, rfl⟩
  have HB := Lib.hid (show cs = (kN.map fun z => Value.int .u32 z).toArray by rw [hcs, kT_cells])
  have h1 : cs.all (·.oneCell') = true := by rw [hcs]; exact uA_one _
  have H1 := Lib.hid h1
  rw [← hcs] at HS
  rw [← hcs]
  clear hcs h1
  go_enter Tryz.func127, Tryz.ntmps127
  go_wp2_with (first
    | (refine wpList_build_to rfl 181 _ rfl cs (by rw [HB.out]; kernel_rfl) ?_)
    | (refine wpList_store_row rfl 181 _ _ rfl w.heap.size cs rfl rfl 181 _ (Bk.newAt _ _ _ _ rfl) (by rw [HS.out]; exact Tryz.info64) (by rw [HS.out]; rfl) H1.out ?_; rw [World.setRow_alloc_new]))
  refine bodyPost_ret (results_cell_row rfl _ _ w.heap.size 181 cs (0, 0) _ rfl (Bk.newAt _ _ _ _ rfl) Tryz.underlying181 rfl (by rw [HS.out]; exact Tryz.info64)) rfl ⟨rfl, (Below.refl _ _).alloc (Nat.le_refl _) _⟩


/-- What the document's call keeps in memory over its loops. -/
structure RT (w wr : World) (B1 : Nat) (s : St) (z cs : Array Value) (A : Option Addr) (c : Nat) (xs : List UInt8) : Prop where
  bel : Below w.heap.size w wr
  b0 : Bk wr w.heap.size 168 (sA s)
  bz : Bk wr (w.heap.size + 1) 168 z
  bk : Bk wr B1 181 cs
  rd : Rd wr A 64 c xs
  lt : w.heap.size + 1 + 1 ≤ B1
theorem RT.drewN {w wr : World} {B1 : Nat} {s : St} {z cs : Array Value} {A : Option Addr} {c : Nat} {xs : List UInt8} (h : RT w wr B1 s z cs A c xs) (n : Nat) : RT w (wr.drewN n) B1 s z cs A c xs :=
  ⟨below_drewN h.bel n, h.b0, h.bz, h.bk, h.rd.below ⟨rfl, rfl, rfl, Nat.le_refl _, fun _ _ => rfl⟩, h.lt⟩
theorem RT.drew {w wr : World} {B1 : Nat} {s : St} {z cs : Array Value} {A : Option Addr} {c : Nat} {xs : List UInt8} (h : RT w wr B1 s z cs A c xs) : RT w wr.drew B1 s z cs A c xs := h.drewN 1
theorem RT.put {w wr : World} {B1 : Nat} {s : St} {z cs : Array Value} {A : Option Addr} {c : Nat} {xs : List UInt8} (h : RT w wr B1 s z cs A c xs) (h0 : Rd w A 64 c xs) (k : Nat) (v : Value) : RT w (wr.setCell ⟨B1 + 1, k, none⟩ v) B1 s z cs A c xs := by
  have hl := h.lt
  have hb := h.bel.setCell (p := ⟨B1 + 1, k, none⟩) (by simp; omega) v
  exact ⟨hb, h.b0.far (by simp; omega) _, h.bz.far (by simp; omega) _, h.bk.far (by simp) _, h0.below hb, hl⟩
theorem put_eq {w : World} {p : Addr} {v v' : Value} {g : Nat} {T : TypeId} {cs : Array Value} (h : v = v') (hb : Bk (w.setCell p v') g T cs) : Bk (w.setCell p v) g T cs := by rw [h]; exact hb
theorem take4 (xs : List UInt8) (n : Nat) (h : n + 4 ≤ xs.length) : (xs.drop n).take 4 = [xs.getD n 0, xs.getD (n + 1) 0, xs.getD (n + 2) 0, xs.getD (n + 3) 0] := by
  apply List.ext_getElem?
  intro i
  simp only [List.getElem?_take, List.getElem?_drop, List.getD]
  match i with
  | 0 => simp [show n < xs.length by omega]
  | 1 => simp [show n + 1 < xs.length by omega]
  | 2 => simp [show n + 2 < xs.length by omega]
  | 3 => simp [show n + 3 < xs.length by omega]
  | i + 4 => simp; omega
theorem w4_four (xs : List UInt8) (k : Nat) (h : 4 * k + 4 ≤ xs.length) (x0 x1 x2 x3 : UInt8) (h0 : x0 = xs.getD (4 * k) 0) (h1 : x1 = xs.getD (4 * k + 1) 0) (h2 : x2 = xs.getD (4 * k + 2) 0) (h3 : x3 = xs.getD (4 * k + 3) 0) :
    ((x0.toNat : Int) % 4294967296 * 16777216 + (x1.toNat : Int) % 4294967296 * 65536 + (x2.toNat : Int) % 4294967296 * 256 + (x3.toNat : Int)) % 4294967296 = ((w4 xs k).toNat : Int) := by
  rw [w4, take4 xs _ h, ← h0, ← h1, ← h2, ← h3]
  have b0 := x0.toNat_lt
  have b1 := x1.toNat_lt
  have b2 := x2.toNat_lt
  have b3 := x3.toNat_lt
  simp [getL]
  omega
theorem mul_i64 (k i : Nat) (hk : k ≤ 4294967296) (hi : i ≤ 4294967296) : IntKind.i64.wrap (4 * (k : Int)) = 4 * (k : Int) ∧ IntKind.i64.wrap (4 * (k : Int) + (i : Int)) = 4 * (k : Int) + (i : Int) ∧ (4 * (k : Int) + (i : Int)).toNat = 4 * k + i := by
  rw [IntKind.wrap_i64, IntKind.wrap_i64]; omega

theorem u32_not' (x : UInt32) : bits .xor .u32 (x.toNat : Int) 4294967295 = ((no x).toNat : Int) := by
  have h := u32_bxor x 4294967295
  have e : xo x 4294967295 = no x := by
    unfold xo no
    exact UInt32.xor_neg_one
  rw [e] at h
  rw [← h]
  rfl
attribute [local go_sem] u32_add u32_band u32_bxor u32_shr3 u32_shr10 u32_not'
set_option maxRecDepth 100000 in
set_option maxHeartbeats 4000000 in
theorem rturn_any (s : St) (A : Option Addr) (c : Nat) (xs : List UInt8) (w : World) (hr : Rd w A 64 c xs) :
    Calls Tryz.prog 115 #[.agg (sA s), .slice A 64 c] w fun e w' => e = .returned (.agg (sA (turn s xs))) ∧ Below w.heap.size w w' := by
  obtain ⟨cs, hcs⟩ : ∃ cs, cs = uA kT := ⟨_, rfl⟩
  have HCS := Lib.hid hcs
  have HS := Lib.hid (show cs.size = 64 by rw [hcs, uA_size]; rfl)
  have H1 := Lib.hid (show cs.all (·.oneCell') = true by rw [hcs]; exact uA_one _)
  have HC := Lib.hid (show ∀ W, Calls Tryz.prog 127 #[] W fun e w' => e = .returned (.agg cs) ∧ Below W.heap.size W w' by rw [hcs]; exact rconst_any)
  clear hcs
  have HR := Lib.hid hr
  clear hr
  go_enter Tryz.func115, Tryz.ntmps115
  go_wp2_with (first
    | (go_at_call 127; refine (HC.out _).mono ?_; rintro e w1 ⟨rfl, hb1⟩)
    | (refine wpList_store_row rfl 181 _ _ rfl w1.heap.size cs rfl rfl 181 _ (Bk.newAt _ _ _ _ rfl) (by rw [HS.out]; exact Tryz.info64) (by rw [HS.out]; rfl) H1.out ?_; rw [World.setRow_alloc_new]))
  obtain ⟨z, B1, hzs, hB1, rt, bw⟩ : ∃ (z : Array Value) (B1 : Nat), Hid (z.size = 8) ∧ B1 = w1.heap.size ∧ RT w ((w1.alloc (.cells cs 181)).alloc (.cells (uA (List.replicate 64 0)) 181)) B1 s z cs A c xs ∧
      Bk ((w1.alloc (.cells cs 181)).alloc (.cells (uA (List.replicate 64 0)) 181)) (B1 + 1) 181 (uA (List.replicate 64 0)) := by
    have hs := hb1.size
    simp at hs
    have hB : Below w.heap.size w ((w1.alloc (.cells cs 181)).alloc (.cells (uA (List.replicate 64 0)) 181)) :=
      (((((Below.refl _ _).alloc (Nat.le_refl _) _).alloc (by simp) _).trans (hb1.mono (by simp; omega))).alloc (by omega) _).alloc (by simp; omega) _
    exact ⟨#[.int .u32 0, .int .u32 0, .int .u32 0, .int .u32 0, .int .u32 0, .int .u32 0, .int .u32 0, .int .u32 0], _, rfl, rfl, ⟨hB, ((((Bk.newAt w _ _ _ rfl).alloc _).below hb1 (by simp; omega)).alloc _).alloc _, (((Bk.newAt _ _ _ _ (by simp)).below hb1 (by simp)).alloc _).alloc _, (Bk.newAt _ _ _ _ rfl).alloc _, HR.out.below hB, by omega⟩, Bk.newAt _ _ _ _ (by simp)⟩
  clear hb1
  rw [← hB1]
  clear hB1
  go_loopw [7] (fun i wr => ∃ k : Nat, k ≤ 16 ∧ i = .int .i64 (k : Int) ∧ RT w wr B1 s z cs A c xs ∧ Bk wr (B1 + 1) 181 (uA (first16 xs k ++ List.replicate (64 - k) 0)))
    (fun i _ => 16 - (intOf i).toNat)
  case atStart => exact ⟨0, by omega, rfl, rt, bw⟩
  case round =>
    obtain ⟨k, hk, rfl, rt, bw⟩ := hrel
    by_cases hlt : k < 16
    · have HN := Lib.hid (fill_next (first16 xs k) k (w4 xs k) (first16_length _ _) (by omega))
      obtain ⟨b, off, rfl, hb, hcell⟩ := rt.rd.at_ (by omega)
      have i2 : (k : Int) < 16 := by omega
      go_wp2
      refine still_tail 35 (by kernel_rfl) (by kernel_rfl) ?_
      intro wd hwd
      have rt : RT w wd B1 s z cs (some ⟨b, off, none⟩) c xs := by rw [hwd]; exact rt.drew
      have bw : Bk wd (B1 + 1) 181 (uA (first16 xs k ++ List.replicate (64 - k) 0)) := by rw [hwd]; exact bw.drew
      have g0 : wd.cell? ⟨b, off + 4 * k, none⟩ = _ := (show wd.cell? _ = wr.cell? _ by rw [hwd]; rfl).trans (hcell (4 * k) (by omega))
      have g1 : wd.cell? ⟨b, off + (4 * k + 1), none⟩ = _ := (show wd.cell? _ = wr.cell? _ by rw [hwd]; rfl).trans (hcell (4 * k + 1) (by omega))
      have g2 : wd.cell? ⟨b, off + (4 * k + 2), none⟩ = _ := (show wd.cell? _ = wr.cell? _ by rw [hwd]; rfl).trans (hcell (4 * k + 2) (by omega))
      have g3 : wd.cell? ⟨b, off + (4 * k + 3), none⟩ = _ := (show wd.cell? _ = wr.cell? _ by rw [hwd]; rfl).trans (hcell (4 * k + 3) (by omega))
      have c0 := (bw.cell k).trans (uA_get _ k (by simp [first16_length]; omega))
      have f0 := bw.frozen k
      clear hwd hcell
      obtain ⟨m0, m1, t1⟩ := mul_i64 k 1 (by omega) (by omega)
      obtain ⟨_, m2, t2⟩ := mul_i64 k 2 (by omega) (by omega)
      obtain ⟨_, m3, t3⟩ := mul_i64 k 3 (by omega) (by omega)
      simp only [Int.cast_ofNat_Int] at m0 m1 m2 m3 t1 t2 t3
      have t0 : (4 * (k : Int)).toNat = 4 * k := by omega
      have p0 : (0 : Int) ≤ 4 * (k : Int) := by omega
      have p1 : (0 : Int) ≤ 4 * (k : Int) + 1 := by omega
      have p2 : (0 : Int) ≤ 4 * (k : Int) + 2 := by omega
      have p3 : (0 : Int) ≤ 4 * (k : Int) + 3 := by omega
      have q0 : 4 * (k : Int) < 64 := by omega
      have q1 : 4 * (k : Int) + 1 < 64 := by omega
      have q2 : 4 * (k : Int) + 2 < 64 := by omega
      have q3 : 4 * (k : Int) + 3 < 64 := by omega
      have q4 : (k : Int) < 64 := by omega
      obtain ⟨x0, hx0⟩ : ∃ v, v = xs.getD (4 * k) 0 := ⟨_, rfl⟩
      obtain ⟨x1, hx1⟩ : ∃ v, v = xs.getD (4 * k + 1) 0 := ⟨_, rfl⟩
      obtain ⟨x2, hx2⟩ : ∃ v, v = xs.getD (4 * k + 2) 0 := ⟨_, rfl⟩
      obtain ⟨x3, hx3⟩ : ∃ v, v = xs.getD (4 * k + 3) 0 := ⟨_, rfl⟩
      rw [← hx0] at g0
      rw [← hx1] at g1
      rw [← hx2] at g2
      rw [← hx3] at g3
      have HX0 := Lib.hid hx0
      have HX1 := Lib.hid hx1
      have HX2 := Lib.hid hx2
      have HX3 := Lib.hid hx3
      clear hx0 hx1 hx2 hx3
      simp only [List.take_succ_cons, List.take_zero, List.drop_succ_cons, List.drop_zero]
      repeat still_step
      refine wpStill_nil ?_
      go_wp2
      go_roundw
      case rel =>
        refine ⟨k + 1, by omega, by go_num, rt.put HR.out _ _, ?_⟩
        have := bw.put k (.int .u32 ((w4 xs k).toNat : Int))
        rw [uA_put, HN.out] at this
        refine put_eq ?_ this
        refine congrArg (Value.int .u32) ?_
        exact w4_four xs k (by rw [HR.out.len]; omega) x0 x1 x2 x3 HX0.out HX1.out HX2.out HX3.out
      case measure => simp [intOf]; omega
    · have bw : Bk wr (B1 + 1) 181 (uA (first16 xs 16 ++ List.replicate (64 - 16) 0)) := by
        obtain rfl : k = 16 := by omega
        exact bw
      go_wp2
      go_loopw [8] (fun i wr => ∃ j : Nat, 16 ≤ j ∧ j ≤ 64 ∧ i = .int .i64 (j : Int) ∧ RT w wr B1 s z cs A c xs ∧ Bk wr (B1 + 1) 181 (uA (ext (first16 xs 16) (j - 16) ++ List.replicate (64 - j) 0)))
        (fun i _ => 64 - (intOf i).toNat)
      case atStart => exact ⟨16, by omega, by omega, rfl, rt, bw⟩
      case round =>
        obtain ⟨j, hj1, hj2, rfl, rt, bw⟩ := hrel
        by_cases hlt : j < 64
        · obtain ⟨E, hE⟩ : ∃ E, E = ext (first16 xs 16) (j - 16) := ⟨_, rfl⟩
          have EL : E.length = j := by rw [hE, ext_length, first16_length]; omega
          have HX1 := Lib.hid (ext_next (first16 xs 16) j hj1)
          rw [← hE] at HX1 bw
          have HN := Lib.hid (fill_next E j (ad (ad (ad (smL (E.getD (j - 2) 0)) (E.getD (j - 7) 0)) (smE (E.getD (j - 15) 0))) (E.getD (j - 16) 0)) EL (by omega))
          have i1 : (16 : Int) ≤ (j : Int) := by omega
          have i2 : (j : Int) < 64 := by omega
          have j1 : (0 : Int) ≤ (j : Int) - 2 := by omega
          have j2 : (0 : Int) ≤ (j : Int) - 7 := by omega
          have j3 : (0 : Int) ≤ (j : Int) - 15 := by omega
          have j4 : (0 : Int) ≤ (j : Int) - 16 := by omega
          have m1 : (2 : Int) ≤ (j : Int) := by omega
          have m2 : (7 : Int) ≤ (j : Int) := by omega
          have m3 : (15 : Int) ≤ (j : Int) := by omega
          have k1 : (j : Int) - 2 < 64 := by omega
          have k2 : (j : Int) - 7 < 64 := by omega
          have k3 : (j : Int) - 15 < 64 := by omega
          have k4 : (j : Int) - 16 < 64 := by omega
          have ce : ∀ i, i < 64 → i < j → wr.cell? ⟨B1 + 1, i, none⟩ = some (.int .u32 ((E.getD i 0).toNat : Int)) := fun i hi hij => by
            rw [bw.cell, uA_get _ _ (by simp; omega), getD_left _ _ _ (by omega)]
          have c0 := (bw.cell j).trans (uA_get _ j (by simp; omega))
          have c1 := ce (j - 2) (by omega) (by omega)
          have c2 := ce (j - 7) (by omega) (by omega)
          have c3 := ce (j - 15) (by omega) (by omega)
          have c4 := ce (j - 16) (by omega) (by omega)
          obtain ⟨w1, t1⟩ := sub_i64 j 2 (by omega) (by omega)
          obtain ⟨w2, t2⟩ := sub_i64 j 7 (by omega) (by omega)
          obtain ⟨w3, t3⟩ := sub_i64 j 15 (by omega) (by omega)
          obtain ⟨w4, t4⟩ := sub_i64 j 16 (by omega) (by omega)
          simp only [Int.cast_ofNat_Int] at w1 t1 w2 t2 w3 t3 w4 t4
          clear ce hE EL
          go_wp2
          go_quiet ((go_at_call 128; exact quiet_l (rrot_any _ _ _ (by omega) (by omega))))
          go_wp2
          go_quiet ((go_at_call 128; exact quiet_al (rrot_any _ _ _ (by omega) (by omega))))
          go_wp2
          refine still_tail 15 (by kernel_rfl) (by kernel_rfl) ?_
          intro wd hwd
          have rt : RT w wd B1 s z cs A c xs := by rw [hwd]; exact ((rt.drewN _).drewN _).drew
          have bw : Bk wd (B1 + 1) 181 (uA (E ++ List.replicate (64 - j) 0)) := by rw [hwd]; exact bw
          have c0 := (show wd.cell? _ = wr.cell? _ by rw [hwd]; rfl).trans c0
          have c2 := (show wd.cell? _ = wr.cell? _ by rw [hwd]; rfl).trans c2
          have c4 := (show wd.cell? _ = wr.cell? _ by rw [hwd]; rfl).trans c4
          have f0 := bw.frozen j
          clear hwd
          simp only [List.take_succ_cons, List.take_zero, List.drop_succ_cons, List.drop_zero]
          repeat still_step
          refine wpStill_nil ?_
          go_wp2
          go_roundw
          case rel => exact ⟨j + 1, by omega, by omega, by go_num, rt.put HR.out _ _, by
            rw [HX1.out, ← HN.out, ← uA_put]; exact bw.put j _⟩
          case measure => simp [intOf]; omega
        · have bw : Bk wr (B1 + 1) 181 (uA (wds xs)) := by
            obtain rfl : j = 64 := by omega
            simpa [wds] using bw
          have c0 : wr.cell? ⟨w.heap.size, 0, none⟩ = some (.int .u32 (s.a.toNat : Int)) := rt.b0.cell 0
          have c1 : wr.cell? ⟨w.heap.size, 1, none⟩ = some (.int .u32 (s.b.toNat : Int)) := rt.b0.cell 1
          have c2 : wr.cell? ⟨w.heap.size, 2, none⟩ = some (.int .u32 (s.c.toNat : Int)) := rt.b0.cell 2
          have c3 : wr.cell? ⟨w.heap.size, 3, none⟩ = some (.int .u32 (s.d.toNat : Int)) := rt.b0.cell 3
          have c4 : wr.cell? ⟨w.heap.size, 4, none⟩ = some (.int .u32 (s.e.toNat : Int)) := rt.b0.cell 4
          have c5 : wr.cell? ⟨w.heap.size, 5, none⟩ = some (.int .u32 (s.f.toNat : Int)) := rt.b0.cell 5
          have c6 : wr.cell? ⟨w.heap.size, 6, none⟩ = some (.int .u32 (s.g.toNat : Int)) := rt.b0.cell 6
          have c7 : wr.cell? ⟨w.heap.size, 7, none⟩ = some (.int .u32 (s.h.toNat : Int)) := rt.b0.cell 7
          go_wp2
          go_quiet (fail)
          go_wp2
          go_quiet (fail)
          go_wp2
          go_loopw [11, 12, 13, 14, 15, 16, 17, 18, 19] (fun va vb vc vd ve vf vg vh vi wr => ∃ (k : Nat) (r : St), k ≤ 64 ∧ Hid (r = rnds (wds xs) s k) ∧ vi = .int .i64 (k : Int) ∧ va = .int .u32 (r.a.toNat : Int) ∧ vb = .int .u32 (r.b.toNat : Int) ∧ vc = .int .u32 (r.c.toNat : Int) ∧ vd = .int .u32 (r.d.toNat : Int) ∧
              ve = .int .u32 (r.e.toNat : Int) ∧ vf = .int .u32 (r.f.toNat : Int) ∧ vg = .int .u32 (r.g.toNat : Int) ∧ vh = .int .u32 (r.h.toNat : Int) ∧ RT w wr B1 s z cs A c xs ∧ Bk wr (B1 + 1) 181 (uA (wds xs)))
            (fun _ _ _ _ _ _ _ _ i _ => 64 - (intOf i).toNat)
          case atStart => exact ⟨0, s, by omega, rfl, rfl, rfl, rfl, rfl, rfl, rfl, rfl, rfl, rfl, (rt.drewN _).drewN _, bw⟩
          case round =>
            obtain ⟨k, r, hk, HQ, rfl, rfl, rfl, rfl, rfl, rfl, rfl, rfl, rfl, rt, bw⟩ := hrel
            clear c0 c1 c2 c3 c4 c5 c6 c7
            by_cases hlt : k < 64
            · obtain ⟨kk, hkk⟩ : ∃ v, v = kT.getD k 0 := ⟨_, rfl⟩
              obtain ⟨ww, hww⟩ : ∃ v, v = (wds xs).getD k 0 := ⟨_, rfl⟩
              have ck : wr.cell? ⟨B1, k, none⟩ = some (.int .u32 ((kT.getD k 0).toNat : Int)) := by rw [rt.bk.cell, HCS.out]; exact uA_get _ k (by rw [kT_length]; exact hlt)
              have cw := (bw.cell k).trans (uA_get _ k (by rw [wds_length]; exact hlt))
              have HQ' : Hid (r.step kk ww = rnds (wds xs) s (k + 1)) := by show _ = _; rw [rnds, ← HQ.out, hkk, hww]
              rw [← hkk] at ck
              rw [← hww] at cw
              clear hkk hww
              have i2 : (k : Int) < 64 := by omega
              go_wp2
              go_quiet ((go_at_call 128; exact quiet_l (rrot_any _ _ _ (by omega) (by omega))))
              go_wp2_with (go_at_call 128; refine (rrot_any _ _ _ (by omega) (by omega)).mono ?_; rintro e w' ⟨rfl, rfl⟩)
              go_roundw
              case rel => exact ⟨k + 1, r.step kk ww, by omega, HQ', by go_num, rfl, rfl, rfl, rfl, rfl, rfl, rfl, rfl, rt.drewN _, bw⟩
              case measure => simp [intOf]; omega
            · obtain rfl : k = 64 := by omega
              have c0 : wr.cell? ⟨w.heap.size, 0, none⟩ = some (.int .u32 (s.a.toNat : Int)) := rt.b0.cell 0
              have c1 : wr.cell? ⟨w.heap.size, 1, none⟩ = some (.int .u32 (s.b.toNat : Int)) := rt.b0.cell 1
              have c2 : wr.cell? ⟨w.heap.size, 2, none⟩ = some (.int .u32 (s.c.toNat : Int)) := rt.b0.cell 2
              have c3 : wr.cell? ⟨w.heap.size, 3, none⟩ = some (.int .u32 (s.d.toNat : Int)) := rt.b0.cell 3
              have c4 : wr.cell? ⟨w.heap.size, 4, none⟩ = some (.int .u32 (s.e.toNat : Int)) := rt.b0.cell 4
              have c5 : wr.cell? ⟨w.heap.size, 5, none⟩ = some (.int .u32 (s.f.toNat : Int)) := rt.b0.cell 5
              have c6 : wr.cell? ⟨w.heap.size, 6, none⟩ = some (.int .u32 (s.g.toNat : Int)) := rt.b0.cell 6
              have c7 : wr.cell? ⟨w.heap.size, 7, none⟩ = some (.int .u32 (s.h.toNat : Int)) := rt.b0.cell 7
              have bz := rt.bz
              go_wp2_with (refine wpList_store_row rfl 168 _ _ rfl (w.heap.size + 1) (sA (s.add r)) rfl rfl 168 z bz Tryz.info8 (by rw [hzs.out]; rfl) (sA_one _) ?_)
              refine bodyPost_ret (results_cell_row rfl _ _ (w.heap.size + 1) 168 (sA (s.add r)) (0, 0) _ rfl (bz.row _) Tryz.underlying168 rfl Tryz.info8) rfl ⟨?_, below_setRow rt.bel (by omega) _⟩
              have := HQ.out
              rw [turn, ← this]
end Go.Proofs.YtnoflgkjdibblaaGreatDoor.S2
