/-
  What the document's own call of one block does: constants, Turn, K.
-/
import Derived.Test.YtjgcaodicbikiaaDoorTurn2V
import Derived.Test.YtjgcaodicbikiaaDoorPair
namespace Go.Proofs.YtjgcaodicbikiaaDoor.S5
set_option linter.unusedSimpArgs false
set_option linter.unusedVariables false
open Go.RowKit

theorem Tryd.info80 : (Tryd.prog.info? 70).map (·.size) = some 80 := by kernel_rfl
theorem kN_word : ∀ z ∈ kN, ((UInt64.ofNat z.toNat).toNat : Int) = z := by decide +kernel
theorem kT_cells : uA kT = (kN.map fun z => Value.int .u64 z).toArray := by
  unfold uA uv kT
  rw [List.map_map]
  refine congrArg List.toArray ?_
  exact List.map_congr_left fun z hz => by simp only [Function.comp]; rw [kN_word z hz]
theorem Tryd.built80 : Tryd.prog.built 70 (((List.range 80).zip kN).map fun x => (x.1, Value.int .u64 x.2)) = some (kN.map fun z => Value.int .u64 z).toArray := by kernel_rfl
set_option maxRecDepth 100000 in
theorem rconst_any (w : World) : Calls Tryd.prog 43 #[] w fun e w' => e = .returned (.agg (uA kT)) ∧ Below w.heap.size w w' := by
  have HS := Lib.hid (show (uA kT).size = 80 by rw [uA_size]; rfl)
  obtain ⟨cs, hcs⟩ : ∃ cs, cs = uA kT := ⟨_, rfl⟩
  have HB := Lib.hid (show cs = (kN.map fun z => Value.int .u64 z).toArray by rw [hcs, kT_cells])
  have h1 : cs.all (·.oneCell') = true := by rw [hcs]; exact uA_one _
  have H1 := Lib.hid h1
  rw [← hcs] at HS
  rw [← hcs]
  clear hcs h1
  have hz := (zero_of_info (P := Tryd.prog) Tryd.zero80).1
  go_enter Tryd.func43, Tryd.ntmps43
  go_wp2_with (first
    | (refine wpList_build_to rfl 70 _ rfl cs (by rw [HB.out]; kernel_rfl) ?_)
    | (refine wpList_store_row rfl 70 _ _ rfl w.heap.size cs rfl rfl 70 _ (Bk.newAt _ _ _ _ rfl) (by rw [HS.out]; exact Tryd.info80) (by rw [HS.out]; rfl) H1.out ?_; rw [World.setRow_alloc_new]))
  refine bodyPost_ret (results_cell_row rfl _ _ w.heap.size 70 cs (0, 0) _ rfl (Bk.newAt _ _ _ _ rfl) Tryd.underlying70 rfl (by rw [HS.out]; exact Tryd.info80)) rfl ⟨rfl, (Below.refl _ _).alloc (Nat.le_refl _) _⟩


/-- What the document's call keeps in memory over its loops. -/
structure RT (w wr : World) (B1 : Nat) (s : St) (z cs : Array Value) (A : Option Addr) (c : Nat) (xs : List UInt8) : Prop where
  bel : Below w.heap.size w wr
  b0 : Bk wr w.heap.size 55 (sA s)
  bz : Bk wr (w.heap.size + 1) 55 z
  bk : Bk wr B1 70 cs
  rd : Rd wr A 128 c xs
  lt : w.heap.size + 1 + 1 ≤ B1
theorem RT.drewN {w wr : World} {B1 : Nat} {s : St} {z cs : Array Value} {A : Option Addr} {c : Nat} {xs : List UInt8} (h : RT w wr B1 s z cs A c xs) (n : Nat) : RT w (wr.drewN n) B1 s z cs A c xs :=
  ⟨below_drewN h.bel n, h.b0, h.bz, h.bk, h.rd.below ⟨rfl, rfl, rfl, Nat.le_refl _, fun _ _ => rfl⟩, h.lt⟩
theorem RT.drew {w wr : World} {B1 : Nat} {s : St} {z cs : Array Value} {A : Option Addr} {c : Nat} {xs : List UInt8} (h : RT w wr B1 s z cs A c xs) : RT w wr.drew B1 s z cs A c xs := h.drewN 1
theorem RT.put {w wr : World} {B1 : Nat} {s : St} {z cs : Array Value} {A : Option Addr} {c : Nat} {xs : List UInt8} (h : RT w wr B1 s z cs A c xs) (h0 : Rd w A 128 c xs) (k : Nat) (v : Value) : RT w (wr.setCell ⟨B1 + 1, k, none⟩ v) B1 s z cs A c xs := by
  have hl := h.lt
  have hb := h.bel.setCell (p := ⟨B1 + 1, k, none⟩) (by simp; omega) v
  exact ⟨hb, h.b0.far (by simp; omega) _, h.bz.far (by simp; omega) _, h.bk.far (by simp) _, h0.below hb, hl⟩
theorem put_eq {w : World} {p : Addr} {v v' : Value} {g : Nat} {T : TypeId} {cs : Array Value} (h : v = v') (hb : Bk (w.setCell p v') g T cs) : Bk (w.setCell p v) g T cs := by rw [h]; exact hb
/-- The first i bytes of the k-th word. -/
def w8p (xs : List UInt8) (k i : Nat) : UInt64 := UInt64.ofNat (getL ((xs.drop (8 * k)).take i))
def fillA (xs : List UInt8) (k i : Nat) : List UInt64 := (first16 xs k ++ [w8p xs k i]) ++ List.replicate (80 - (k + 1)) 0
theorem fillA_zero (xs : List UInt8) (k : Nat) (h : k < 80) : first16 xs k ++ List.replicate (80 - k) 0 = fillA xs k 0 := by
  obtain ⟨m, hm⟩ : ∃ m, 80 - k = m + 1 := ⟨80 - k - 1, by omega⟩
  rw [fillA, hm, show 80 - (k + 1) = m by omega, List.replicate_succ, List.append_assoc]
  rfl
theorem fillA_full (xs : List UInt8) (k : Nat) : fillA xs k 8 = first16 xs (k + 1) ++ List.replicate (80 - (k + 1)) 0 := rfl
theorem fillA_length (xs : List UInt8) (k i : Nat) (h : k < 80) : (fillA xs k i).length = 80 := by simp [fillA, first16_length]; omega
theorem fillA_at (xs : List UInt8) (k i : Nat) : (fillA xs k i).getD k 0 = w8p xs k i := by
  have e := first16_length xs k
  simp [fillA, List.getD, List.getElem?_append, e]
theorem fillA_set (xs : List UInt8) (k i : Nat) (x : UInt64) (hx : x = w8p xs k (i + 1)) : (fillA xs k i).set k x = fillA xs k (i + 1) := by
  subst hx
  have e := first16_length xs k
  rw [fillA, fillA, List.append_assoc, List.set_append_right _ _ (by omega), e, Nat.sub_self]
  simp
theorem w8p_next (xs : List UInt8) (k i : Nat) (h : 8 * k + i < xs.length) (hi : i < 8) : (((w8p xs k i).toNat : Int) * 256 % 18446744073709551616 + ((xs.getD (8 * k + i) 0).toNat : Int)) % 18446744073709551616 = ((w8p xs k (i + 1)).toNat : Int) := by
  have h1 : i < (xs.drop (8 * k)).length := by simp; omega
  have e : (xs.drop (8 * k)).take (i + 1) = (xs.drop (8 * k)).take i ++ [xs.getD (8 * k + i) 0] := by
    rw [List.take_succ_eq_append_getElem h1]
    simp [List.getD, h]
  rw [w8p, w8p, e, getL_snoc]
  simp
  omega
theorem mul_i64 (k i : Nat) (hk : k ≤ 4294967296) (hi : i ≤ 4294967296) : IntKind.i64.wrap (8 * (k : Int)) = 8 * (k : Int) ∧ IntKind.i64.wrap (8 * (k : Int) + (i : Int)) = 8 * (k : Int) + (i : Int) ∧ (8 * (k : Int) + (i : Int)).toNat = 8 * k + i := by
  rw [IntKind.wrap_i64, IntKind.wrap_i64]; omega

theorem u64_not' (x : UInt64) : bits .xor .u64 (x.toNat : Int) 18446744073709551615 = ((no x).toNat : Int) := by
  have h := u64_bxor x 18446744073709551615
  have e : xo x 18446744073709551615 = no x := by
    unfold xo no
    exact UInt64.xor_neg_one
  rw [e] at h
  rw [← h]
  rfl
attribute [local go_sem] u64_add u64_band u64_bxor u64_shr7 u64_shr6 u64_not'
set_option maxRecDepth 100000 in
set_option maxHeartbeats 4000000 in
theorem rturn_any (s : St) (A : Option Addr) (c : Nat) (xs : List UInt8) (w : World) (hr : Rd w A 128 c xs) :
    Calls Tryd.prog 34 #[.agg (sA s), .slice A 128 c] w fun e w' => e = .returned (.agg (sA (turn s xs))) ∧ Below w.heap.size w w' := by
  obtain ⟨cs, hcs⟩ : ∃ cs, cs = uA kT := ⟨_, rfl⟩
  have HCS := Lib.hid hcs
  have HS := Lib.hid (show cs.size = 80 by rw [hcs, uA_size]; rfl)
  have H1 := Lib.hid (show cs.all (·.oneCell') = true by rw [hcs]; exact uA_one _)
  have HC := Lib.hid (show ∀ W, Calls Tryd.prog 43 #[] W fun e w' => e = .returned (.agg cs) ∧ Below W.heap.size W w' by rw [hcs]; exact rconst_any)
  clear hcs
  have HR := Lib.hid hr
  clear hr
  have hz := (zero_of_info (P := Tryd.prog) Tryd.zero80).1
  go_enter Tryd.func34, Tryd.ntmps34
  go_wp2_with (first
    | (go_at_call 43; refine (HC.out _).mono ?_; rintro e w1 ⟨rfl, hb1⟩)
    | (refine wpList_store_row rfl 70 _ _ rfl w1.heap.size cs rfl rfl 70 _ (Bk.newAt _ _ _ _ rfl) (by rw [HS.out]; exact Tryd.info80) (by rw [HS.out]; rfl) H1.out ?_; rw [World.setRow_alloc_new]))
  obtain ⟨z, B1, hzs, hB1, rt, bw⟩ : ∃ (z : Array Value) (B1 : Nat), Hid (z.size = 8) ∧ B1 = w1.heap.size ∧ RT w ((w1.alloc (.cells cs 70)).alloc (.cells (uA (List.replicate 80 0)) 70)) B1 s z cs A c xs ∧
      Bk ((w1.alloc (.cells cs 70)).alloc (.cells (uA (List.replicate 80 0)) 70)) (B1 + 1) 70 (uA (List.replicate 80 0)) := by
    have hs := hb1.size
    simp at hs
    have hB : Below w.heap.size w ((w1.alloc (.cells cs 70)).alloc (.cells (uA (List.replicate 80 0)) 70)) :=
      (((((Below.refl _ _).alloc (Nat.le_refl _) _).alloc (by simp) _).trans (hb1.mono (by simp; omega))).alloc (by omega) _).alloc (by simp; omega) _
    exact ⟨#[.int .u64 0, .int .u64 0, .int .u64 0, .int .u64 0, .int .u64 0, .int .u64 0, .int .u64 0, .int .u64 0], _, rfl, rfl, ⟨hB, ((((Bk.newAt w _ _ _ rfl).alloc _).below hb1 (by simp; omega)).alloc _).alloc _, (((Bk.newAt _ _ _ _ (by simp)).below hb1 (by simp)).alloc _).alloc _, (Bk.newAt _ _ _ _ rfl).alloc _, HR.out.below hB, by omega⟩, Bk.newAt _ _ _ _ (by simp)⟩
  clear hb1 hz
  rw [← hB1]
  clear hB1
  go_loopw [7, 8] (fun i _ wr => ∃ k : Nat, k ≤ 16 ∧ i = .int .i64 (k : Int) ∧ RT w wr B1 s z cs A c xs ∧ Bk wr (B1 + 1) 70 (uA (first16 xs k ++ List.replicate (80 - k) 0)))
    (fun i _ _ => 16 - (intOf i).toNat)
  case atStart => exact ⟨0, by omega, rfl, rt, bw⟩
  case round =>
    obtain ⟨k, hk, rfl, rt, bw⟩ := hrel
    by_cases hlt : k < 16
    · rw [fillA_zero xs k (by omega)] at bw
      have i2 : (k : Int) < 16 := by omega
      go_wp2
      go_loopw [8] (fun v wr => ∃ i : Nat, i ≤ 8 ∧ v = .int .i64 (i : Int) ∧ RT w wr B1 s z cs A c xs ∧ Bk wr (B1 + 1) 70 (uA (fillA xs k i))) (fun i _ => 8 - (intOf i).toNat)
      case atStart => exact ⟨0, by omega, rfl, rt, bw⟩
      case round =>
        obtain ⟨i, hi, rfl, rt, bw⟩ := hrel
        by_cases hlt8 : i < 8
        · obtain ⟨b, off, rfl, hb, hcell⟩ := rt.rd.at_ (by omega)
          have i3 : (i : Int) < 8 := by omega
          go_wp2
          refine still_tail 15 (by kernel_rfl) (by kernel_rfl) ?_
          intro wd hwd
          have rt : RT w wd B1 s z cs (some ⟨b, off, none⟩) c xs := by rw [hwd]; exact rt.drew
          have bw : Bk wd (B1 + 1) 70 (uA (fillA xs k i)) := by rw [hwd]; exact bw.drew
          have g0 : wd.cell? ⟨b, off + (8 * k + i), none⟩ = _ := (show wd.cell? _ = wr.cell? _ by rw [hwd]; rfl).trans (hcell (8 * k + i) (by omega))
          have c0 := (bw.cell k).trans (uA_get _ k (by rw [fillA_length _ _ _ (by omega)]; omega))
          rw [fillA_at] at c0
          have f0 := bw.frozen k
          clear hwd hcell
          obtain ⟨m0, m1, t1⟩ := mul_i64 k i (by omega) (by omega)
          have p1 : (0 : Int) ≤ 8 * (k : Int) + (i : Int) := by omega
          have q1 : 8 * (k : Int) + (i : Int) < 128 := by omega
          have q4 : (k : Int) < 80 := by omega
          have HV := Lib.hid (w8p_next xs k i (by rw [HR.out.len]; omega) hlt8)
          obtain ⟨x0, hx0⟩ : ∃ v, v = xs.getD (8 * k + i) 0 := ⟨_, rfl⟩
          obtain ⟨y0, hy0⟩ : ∃ v, v = w8p xs k i := ⟨_, rfl⟩
          rw [← hx0] at g0 HV
          rw [← hy0] at c0 HV
          clear hx0 hy0
          simp only [List.take_succ_cons, List.take_zero, List.drop_succ_cons, List.drop_zero]
          repeat still_step
          refine wpStill_nil ?_
          go_wp2
          go_roundw
          case rel =>
            refine ⟨i + 1, by omega, by go_num, rt.put HR.out _ _, ?_⟩
            have := bw.put k (.int .u64 ((w8p xs k (i + 1)).toNat : Int))
            rw [uA_put, fillA_set xs k i _ rfl] at this
            refine put_eq ?_ this
            refine congrArg (Value.int .u64) ?_
            have hx8 := x0.toNat_lt
            rw [← HV.out]
            simp only [IntKind.wrap_u64]
            omega
          case measure => simp [intOf]; omega
        · obtain rfl : i = 8 := by omega
          have hlt8' : ¬ ((8 : Nat) : Int) < 8 := by omega
          rw [fillA_full] at bw
          go_wp2
          go_roundw
          case rel => exact ⟨k + 1, by omega, by go_num, rt, bw⟩
          case measure => simp [intOf]; omega
    · have bw : Bk wr (B1 + 1) 70 (uA (first16 xs 16 ++ List.replicate (80 - 16) 0)) := by
        obtain rfl : k = 16 := by omega
        exact bw
      go_wp2
      go_loopw [9] (fun i wr => ∃ j : Nat, 16 ≤ j ∧ j ≤ 80 ∧ i = .int .i64 (j : Int) ∧ RT w wr B1 s z cs A c xs ∧ Bk wr (B1 + 1) 70 (uA (ext (first16 xs 16) (j - 16) ++ List.replicate (80 - j) 0)))
        (fun i _ => 80 - (intOf i).toNat)
      case atStart => exact ⟨16, by omega, by omega, rfl, rt, bw⟩
      case round =>
        obtain ⟨j, hj1, hj2, rfl, rt, bw⟩ := hrel
        by_cases hlt : j < 80
        · obtain ⟨E, hE⟩ : ∃ E, E = ext (first16 xs 16) (j - 16) := ⟨_, rfl⟩
          have EL : E.length = j := by rw [hE, ext_length, first16_length]; omega
          have HX1 := Lib.hid (ext_next (first16 xs 16) j hj1)
          rw [← hE] at HX1 bw
          have HN := Lib.hid (fill_next E j (ad (ad (ad (smL (E.getD (j - 2) 0)) (E.getD (j - 7) 0)) (smE (E.getD (j - 15) 0))) (E.getD (j - 16) 0)) EL (by omega))
          have i1 : (16 : Int) ≤ (j : Int) := by omega
          have i2 : (j : Int) < 80 := by omega
          have j1 : (0 : Int) ≤ (j : Int) - 2 := by omega
          have j2 : (0 : Int) ≤ (j : Int) - 7 := by omega
          have j3 : (0 : Int) ≤ (j : Int) - 15 := by omega
          have j4 : (0 : Int) ≤ (j : Int) - 16 := by omega
          have m1 : (2 : Int) ≤ (j : Int) := by omega
          have m2 : (7 : Int) ≤ (j : Int) := by omega
          have m3 : (15 : Int) ≤ (j : Int) := by omega
          have k1 : (j : Int) - 2 < 80 := by omega
          have k2 : (j : Int) - 7 < 80 := by omega
          have k3 : (j : Int) - 15 < 80 := by omega
          have k4 : (j : Int) - 16 < 80 := by omega
          have ce : ∀ i, i < 80 → i < j → wr.cell? ⟨B1 + 1, i, none⟩ = some (.int .u64 ((E.getD i 0).toNat : Int)) := fun i hi hij => by
            rw [bw.cell, uA_get _ _ (by simp; omega), getD_left _ _ _ (by omega)]
          have c0 := (bw.cell j).trans (uA_get _ j (by simp; omega))
          have c1 := ce (j - 2) (by omega) (by omega)
          have c2 := ce (j - 7) (by omega) (by omega)
          have c3 := ce (j - 15) (by omega) (by omega)
          have c4 := ce (j - 16) (by omega) (by omega)
          obtain ⟨w1, t1⟩ := sub_i64 j 2 (by omega) (by omega)
          obtain ⟨w2, t2⟩ := sub_i64 j 7 (by omega) (by omega)
          obtain ⟨w3, t3⟩ := sub_i64 j 15 (by omega) (by omega)
          obtain ⟨w4, t4⟩ := sub_i64 j 16 (by omega) (by omega)
          simp only [Int.cast_ofNat_Int] at w1 t1 w2 t2 w3 t3 w4 t4
          clear ce hE EL
          go_wp2
          go_quiet ((go_at_call 44; exact quiet_l (rrot_any _ _ _ (by omega) (by omega))))
          go_wp2
          go_quiet ((go_at_call 44; exact quiet_al (rrot_any _ _ _ (by omega) (by omega))))
          go_wp2
          refine still_tail 15 (by kernel_rfl) (by kernel_rfl) ?_
          intro wd hwd
          have rt : RT w wd B1 s z cs A c xs := by rw [hwd]; exact ((rt.drewN _).drewN _).drew
          have bw : Bk wd (B1 + 1) 70 (uA (E ++ List.replicate (80 - j) 0)) := by rw [hwd]; exact bw
          have c0 := (show wd.cell? _ = wr.cell? _ by rw [hwd]; rfl).trans c0
          have c2 := (show wd.cell? _ = wr.cell? _ by rw [hwd]; rfl).trans c2
          have c4 := (show wd.cell? _ = wr.cell? _ by rw [hwd]; rfl).trans c4
          have f0 := bw.frozen j
          clear hwd
          simp only [List.take_succ_cons, List.take_zero, List.drop_succ_cons, List.drop_zero]
          repeat still_step
          refine wpStill_nil ?_
          go_wp2
          go_roundw
          case rel => exact ⟨j + 1, by omega, by omega, by go_num, rt.put HR.out _ _, by
            rw [HX1.out, ← HN.out, ← uA_put]; exact bw.put j _⟩
          case measure => simp [intOf]; omega
        · have bw : Bk wr (B1 + 1) 70 (uA (wds xs)) := by
            obtain rfl : j = 80 := by omega
            simpa [wds] using bw
          have c0 : wr.cell? ⟨w.heap.size, 0, none⟩ = some (.int .u64 (s.a.toNat : Int)) := rt.b0.cell 0
          have c1 : wr.cell? ⟨w.heap.size, 1, none⟩ = some (.int .u64 (s.b.toNat : Int)) := rt.b0.cell 1
          have c2 : wr.cell? ⟨w.heap.size, 2, none⟩ = some (.int .u64 (s.c.toNat : Int)) := rt.b0.cell 2
          have c3 : wr.cell? ⟨w.heap.size, 3, none⟩ = some (.int .u64 (s.d.toNat : Int)) := rt.b0.cell 3
          have c4 : wr.cell? ⟨w.heap.size, 4, none⟩ = some (.int .u64 (s.e.toNat : Int)) := rt.b0.cell 4
          have c5 : wr.cell? ⟨w.heap.size, 5, none⟩ = some (.int .u64 (s.f.toNat : Int)) := rt.b0.cell 5
          have c6 : wr.cell? ⟨w.heap.size, 6, none⟩ = some (.int .u64 (s.g.toNat : Int)) := rt.b0.cell 6
          have c7 : wr.cell? ⟨w.heap.size, 7, none⟩ = some (.int .u64 (s.h.toNat : Int)) := rt.b0.cell 7
          go_wp2
          go_quiet (fail)
          go_wp2
          go_quiet (fail)
          go_wp2
          go_loopw [12, 13, 14, 15, 16, 17, 18, 19, 20] (fun va vb vc vd ve vf vg vh vi wr => ∃ (k : Nat) (r : St), k ≤ 80 ∧ Hid (r = rnds (wds xs) s k) ∧ vi = .int .i64 (k : Int) ∧ va = .int .u64 (r.a.toNat : Int) ∧ vb = .int .u64 (r.b.toNat : Int) ∧ vc = .int .u64 (r.c.toNat : Int) ∧ vd = .int .u64 (r.d.toNat : Int) ∧
              ve = .int .u64 (r.e.toNat : Int) ∧ vf = .int .u64 (r.f.toNat : Int) ∧ vg = .int .u64 (r.g.toNat : Int) ∧ vh = .int .u64 (r.h.toNat : Int) ∧ RT w wr B1 s z cs A c xs ∧ Bk wr (B1 + 1) 70 (uA (wds xs)))
            (fun _ _ _ _ _ _ _ _ i _ => 80 - (intOf i).toNat)
          case atStart => exact ⟨0, s, by omega, rfl, rfl, rfl, rfl, rfl, rfl, rfl, rfl, rfl, rfl, (rt.drewN _).drewN _, bw⟩
          case round =>
            obtain ⟨k, r, hk, HQ, rfl, rfl, rfl, rfl, rfl, rfl, rfl, rfl, rfl, rt, bw⟩ := hrel
            clear c0 c1 c2 c3 c4 c5 c6 c7
            by_cases hlt : k < 80
            · obtain ⟨kk, hkk⟩ : ∃ v, v = kT.getD k 0 := ⟨_, rfl⟩
              obtain ⟨ww, hww⟩ : ∃ v, v = (wds xs).getD k 0 := ⟨_, rfl⟩
              have ck : wr.cell? ⟨B1, k, none⟩ = some (.int .u64 ((kT.getD k 0).toNat : Int)) := by rw [rt.bk.cell, HCS.out]; exact uA_get _ k (by rw [kT_length]; exact hlt)
              have cw := (bw.cell k).trans (uA_get _ k (by rw [wds_length]; exact hlt))
              have HQ' : Hid (r.step kk ww = rnds (wds xs) s (k + 1)) := by show _ = _; rw [rnds, ← HQ.out, hkk, hww]
              rw [← hkk] at ck
              rw [← hww] at cw
              clear hkk hww
              have i2 : (k : Int) < 80 := by omega
              go_wp2
              go_quiet ((go_at_call 44; exact quiet_l (rrot_any _ _ _ (by omega) (by omega))))
              go_wp2_with (go_at_call 44; refine (rrot_any _ _ _ (by omega) (by omega)).mono ?_; rintro e w' ⟨rfl, rfl⟩)
              go_roundw
              case rel => exact ⟨k + 1, r.step kk ww, by omega, HQ', by go_num, rfl, rfl, rfl, rfl, rfl, rfl, rfl, rfl, rt.drewN _, bw⟩
              case measure => simp [intOf]; omega
            · obtain rfl : k = 80 := by omega
              have c0 : wr.cell? ⟨w.heap.size, 0, none⟩ = some (.int .u64 (s.a.toNat : Int)) := rt.b0.cell 0
              have c1 : wr.cell? ⟨w.heap.size, 1, none⟩ = some (.int .u64 (s.b.toNat : Int)) := rt.b0.cell 1
              have c2 : wr.cell? ⟨w.heap.size, 2, none⟩ = some (.int .u64 (s.c.toNat : Int)) := rt.b0.cell 2
              have c3 : wr.cell? ⟨w.heap.size, 3, none⟩ = some (.int .u64 (s.d.toNat : Int)) := rt.b0.cell 3
              have c4 : wr.cell? ⟨w.heap.size, 4, none⟩ = some (.int .u64 (s.e.toNat : Int)) := rt.b0.cell 4
              have c5 : wr.cell? ⟨w.heap.size, 5, none⟩ = some (.int .u64 (s.f.toNat : Int)) := rt.b0.cell 5
              have c6 : wr.cell? ⟨w.heap.size, 6, none⟩ = some (.int .u64 (s.g.toNat : Int)) := rt.b0.cell 6
              have c7 : wr.cell? ⟨w.heap.size, 7, none⟩ = some (.int .u64 (s.h.toNat : Int)) := rt.b0.cell 7
              have bz := rt.bz
              go_wp2_with (refine wpList_store_row rfl 55 _ _ rfl (w.heap.size + 1) (sA (s.add r)) rfl rfl 55 z bz Tryd.info8 (by rw [hzs.out]; rfl) (sA_one _) ?_)
              refine bodyPost_ret (results_cell_row rfl _ _ (w.heap.size + 1) 55 (sA (s.add r)) (0, 0) _ rfl (bz.row _) Tryd.underlying55 rfl Tryd.info8) rfl ⟨?_, below_setRow rt.bel (by omega) _⟩
              have := HQ.out
              rw [turn, ← this]
end Go.Proofs.YtjgcaodicbikiaaDoor.S5
