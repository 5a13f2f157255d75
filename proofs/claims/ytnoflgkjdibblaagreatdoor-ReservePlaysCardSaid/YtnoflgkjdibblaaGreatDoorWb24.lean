/-
  Texts put together: ReC, ReD, ReE. No statement is proved here.
-/
import Derived.Test.YtnoflgkjdibblaaGreatDoorWb23
import Derived.Test.YtnoflgkjdibblaaGreatDoorWb19
import Derived.BigQuiet

/-
  The landed counter's parts, out of bytes. No statement is proved here.
-/
namespace Go.Proofs.YtnoflgkjdibblaaGreatDoor.S21
set_option linter.unusedSimpArgs false
set_option linter.unusedVariables false
set_option maxRecDepth 8192
open Go.RowKit S19 S20

theorem cutF_step (ps : List (List UInt8)) (b : List UInt8) (k : Nat) (ns : List Int) (h : k ≤ b.length) : CT.cutF ps b ((k : Int) :: ns) = CT.cutF (ps ++ [b.take k]) (b.drop k) ns := by
  rw [CT.cutF, if_neg (by omega), if_neg (by omega), Int.toNat_natCast]
theorem cut_parts (b : List UInt8) (n m : Nat) (hl : b.length = n) (h25 : 25 ≤ n) (hm : m = n - 25) : CT.cutL b [8, 8, 8, 1, (m : Int)] = ([b.take 8, (b.drop 8).take 8, (b.drop 16).take 8, (b.drop 24).take 1, b.drop 25], 0) := by
  show CT.cutF [] b [((8 : Nat) : Int), ((8 : Nat) : Int), ((8 : Nat) : Int), ((1 : Nat) : Int), (m : Int)] = _
  have e : (b.drop 25).take m = b.drop 25 := List.take_of_length_le (by simp; omega)
  have z : ((b.drop 25).drop m).length = 0 := by simp; omega
  rw [cutF_step, cutF_step, cutF_step, cutF_step, cutF_step, CT.cutF]
  · simp only [List.drop_drop, List.nil_append, List.cons_append, Nat.reduceAdd] at z ⊢
    rw [z, if_neg (by omega), e]
  all_goals (first | omega | (simp only [List.length_drop, List.drop_drop]; omega))
theorem rdI5 (w : World) (g : Nat) (hg : w.heap.size = g) (T : TypeId) (m : Nat) (hm : m ≤ 100000) : CT.RdI (w.alloc (.cells #[.int .i64 8, .int .i64 8, .int .i64 8, .int .i64 1, .int .i64 (m : Int)] T)) (some ⟨g, 0, none⟩) 5 5 [8, 8, 8, 1, (m : Int)] := by
  subst hg
  refine ⟨rfl, Nat.le_refl _, by simp [maxLen], ?_, fun _ => ⟨w.heap.size, 0, rfl, by simp, fun j hj => ?_⟩⟩
  · intro x hx
    simp only [List.mem_cons, List.not_mem_nil, or_false] at hx
    unfold maxLen
    omega
  · rw [Nat.zero_add, (Bk.new w T _).cell j]
    match j, hj with
    | 0, _ => rfl
    | 1, _ => rfl
    | 2, _ => rfl
    | 3, _ => rfl
    | 4, _ => rfl
theorem own_blk' {w : World} {B e n : Nat} {A : Option Addr} {c : Nat} {xs : List Value} (h : w.ownsRow B e 1 (.slice A n c) n xs) (hn : 0 < n) : ∃ g, A = some ⟨g, 0, none⟩ ∧ B ≤ g ∧ g < w.heap.size := by
  have hl := h.lt
  rcases h.2 with ⟨h1, hn'⟩ | ⟨g, cap, cur, h1, hB, hh, _⟩
  · omega
  · injection h1 with h1 h2 h3
    exact ⟨g, h1, hB, (Array.getElem?_eq_some_iff.1 hh).1⟩
/-- The five parts in memory. -/
structure Pts (N : Nat) (b : List UInt8) (m g : Nat) (A0 : Option Addr) (c0 : Nat) (A1 : Option Addr) (c1 : Nat) (A2 : Option Addr) (c2 : Nat) (b3 c3 : Nat) (A4 : Option Addr) (c4 : Nat) (X : World) : Prop where
  k0 : X.cell? ⟨g, 0, none⟩ = some (.slice A0 8 c0)
  k1 : X.cell? ⟨g, 1, none⟩ = some (.slice A1 8 c1)
  k2 : X.cell? ⟨g, 2, none⟩ = some (.slice A2 8 c2)
  k3 : X.cell? ⟨g, 3, none⟩ = some (.slice (some ⟨b3, 0, none⟩) 1 c3)
  k4 : X.cell? ⟨g, 4, none⟩ = some (.slice A4 m c4)
  k5 : X.cell? ⟨b3, 0, none⟩ = some (.int .u8 ((b.getD 24 0).toNat : Int))
  lg : g < X.heap.size
  lb : b3 < X.heap.size
  ng : N ≤ g
  nb : N ≤ b3
  r0 : Rd X A0 8 c0 (b.take 8)
  r1 : Rd X A1 8 c1 ((b.drop 8).take 8)
  r2 : Rd X A2 8 c2 ((b.drop 16).take 8)
  r4 : Rd X A4 m c4 (b.drop 25)
  far : ∀ a, 0 < m → A4 = some a → N ≤ a.block
theorem Pts.below {N : Nat} {b : List UInt8} {m g c0 c1 c2 b3 c3 c4 : Nat} {A0 A1 A2 A4 : Option Addr} {X Y : World} (t : Pts N b m g A0 c0 A1 c1 A2 c2 b3 c3 A4 c4 X) (hb : Below X.heap.size X Y) : Pts N b m g A0 c0 A1 c1 A2 c2 b3 c3 A4 c4 Y :=
  ⟨(hb.cell (p := ⟨g, 0, none⟩) t.lg).trans t.k0, (hb.cell (p := ⟨g, 1, none⟩) t.lg).trans t.k1, (hb.cell (p := ⟨g, 2, none⟩) t.lg).trans t.k2, (hb.cell (p := ⟨g, 3, none⟩) t.lg).trans t.k3, (hb.cell (p := ⟨g, 4, none⟩) t.lg).trans t.k4, (hb.cell (p := ⟨b3, 0, none⟩) t.lb).trans t.k5, Nat.lt_of_lt_of_le t.lg hb.size, Nat.lt_of_lt_of_le t.lb hb.size, t.ng, t.nb, t.r0.below hb, t.r1.below hb, t.r2.below hb, t.r4.below hb, t.far⟩
theorem getD_one (b : List UInt8) (h : 24 < b.length) : ((b.drop 24).take 1)[0]? = some (b.getD 24 0) := by
  rw [List.getElem?_take, if_pos (by omega), List.getElem?_drop, List.getD_eq_getElem?_getD, List.getElem?_eq_getElem (by omega)]
  rfl
theorem cut_pts {w w' : World} {e : Ending} {b : List UInt8} {n m : Nat} (hl : b.length = n) (h25 : 25 ≤ n) (hm : m = n - 25) (h : CT.CutEnd w ([b.take 8, (b.drop 8).take 8, (b.drop 16).take 8, (b.drop 24).take 1, b.drop 25], 0) e w') :
    ∃ g cg A0 c0 A1 c1 A2 c2 b3 c3 A4 c4, e = .returned (.tuple #[.slice (some ⟨g, 0, none⟩) 5 cg, .int .i64 0]) ∧ Pts w.heap.size b m g A0 c0 A1 c1 A2 c2 b3 c3 A4 c4 w' ∧ Below w.heap.size w w' := by
  obtain ⟨A, l, c, vs, rfl, ho, hv, hb⟩ := h
  have hvl : vs.length = 5 := hv.len
  obtain rfl : l = 5 := by have := ho.1; simp at this; omega
  obtain ⟨g, rfl, hg1, hg2⟩ := own_blk' ho (by omega)
  obtain ⟨A0, n0, c0, e0, o0⟩ := hv.at_ 0 (by simp)
  obtain ⟨A1, n1, c1, e1, o1⟩ := hv.at_ 1 (by simp)
  obtain ⟨A2, n2, c2, e2, o2⟩ := hv.at_ 2 (by simp)
  obtain ⟨A3, n3, c3, e3, o3⟩ := hv.at_ 3 (by simp)
  obtain ⟨A4, n4, c4, e4, o4⟩ := hv.at_ 4 (by simp)
  have f0 := ho.cellAt 0 (by omega)
  have f1 := ho.cellAt 1 (by omega)
  have f2 := ho.cellAt 2 (by omega)
  have f3 := ho.cellAt 3 (by omega)
  have f4 := ho.cellAt 4 (by omega)
  rw [e0] at f0
  rw [e1] at f1
  rw [e2] at f2
  rw [e3] at f3
  rw [e4] at f4
  simp only [List.getElem?_cons_zero, List.getElem?_cons_succ, Option.getD_some] at o0 o1 o2 o3 o4
  obtain rfl : 8 = n0 := by rw [← own_len o0]; simp; omega
  obtain rfl : 8 = n1 := by rw [← own_len o1]; simp; omega
  obtain rfl : 8 = n2 := by rw [← own_len o2]; simp; omega
  obtain rfl : 1 = n3 := by rw [← own_len o3]; simp; omega
  obtain rfl : m = n4 := by rw [← own_len o4]; simp; omega
  obtain ⟨b3, rfl, hb1, hb2⟩ := own_blk' o3 (by omega)
  have f5 := o3.cellAt 0 (by omega)
  rw [show (bv ((b.drop 24).take 1))[0]? = some (.int .u8 ((b.getD 24 0).toNat : Int)) by rw [bv, List.getElem?_map, getD_one b (by omega)]; rfl] at f5
  refine ⟨g, c, A0, c0, A1, c1, A2, c2, b3, c3, A4, c4, rfl, ⟨f0, f1, f2, f3, f4, f5, hg2, hb2, by omega, hb1, Rd.own o0, Rd.own o1, Rd.own o2, Rd.own o4, fun a h0 ha => ?_⟩, hb⟩
  obtain ⟨b4, hb4, hb5, _⟩ := own_blk' o4 h0
  rw [hb4] at ha
  injection ha with ha
  rw [← ha]
  exact hb5
theorem byte_one (u : UInt8) : ((u.toNat : Int) == 1) = decide (u = 1) := by
  by_cases h : u = 1
  · subst h; rfl
  · rw [decide_eq_false h]
    have : u.toNat ≠ 1 := fun e => h (UInt8.toNat_inj.1 e)
    rw [beq_eq_false_iff_ne]
    omega
theorem drew_heap (w : World) : w.drew.heap = w.heap := rfl
theorem Tryz.infoNc : (Tryz.prog.info? 90).map (·.size) = some 6 := by kernel_rfl
set_option maxHeartbeats 8000000 in
theorem lparts_any (A : Option Addr) (n c : Nat) (b : List UInt8) (w : World) (hr : Rd w A n c b) (h25 : 25 ≤ n) (hn : n ≤ 100000) : Calls Tryz.prog 76 #[.slice A n c] w fun e w' => ∃ A' c', e = .returned (.agg (ncA (Cn.ofB b) A' (n - 25) c')) ∧ Rd w' A' (n - 25) c' (b.drop 25) ∧ (∀ a, 0 < n - 25 → A' = some a → w.heap.size ≤ a.block) ∧ Below w.heap.size w w' := by
  have hl := hr.len
  obtain ⟨m, hm⟩ : ∃ m, m = n - 25 := ⟨_, rfl⟩
  obtain ⟨v0, hv0⟩ : ∃ v, v = getL (b.take 8) := ⟨_, rfl⟩
  obtain ⟨v1, hv1⟩ : ∃ v, v = getL ((b.drop 8).take 8) := ⟨_, rfl⟩
  obtain ⟨v2, hv2⟩ : ∃ v, v = getL ((b.drop 16).take 8) := ⟨_, rfl⟩
  obtain ⟨u, hu⟩ : ∃ v, v = ((b.getD 24 0).toNat : Int) := ⟨_, rfl⟩
  obtain ⟨fl, hfl⟩ : ∃ v, v = decide (b.getD 24 0 = 1) := ⟨_, rfl⟩
  have hu1 : (u == 1) = fl := by rw [hu, hfl]; exact byte_one _
  have EQ := Lib.hid (show Cn.ofB b = ⟨v0, v1, v2, v2, fl⟩ by rw [hv0, hv1, hv2, hfl]; rfl)
  rw [EQ.out, ← hm]
  have HR := Lib.hid hr
  have CUT := Lib.hid (show ∀ X g1 T, X.heap.size = g1 → Below w.heap.size w X → Calls Tryz.prog 104 #[.slice A n c, .slice (some ⟨g1, 0, none⟩) 5 5] (X.alloc (.cells #[.int .i64 8, .int .i64 8, .int .i64 8, .int .i64 1, .int .i64 (m : Int)] T)) fun e w' => ∃ g cg A0 c0 A1 c1 A2 c2 b3 c3 A4 c4, e = .returned (.tuple #[.slice (some ⟨g, 0, none⟩) 5 cg, .int .i64 0]) ∧ Pts (X.heap.size + 1) b m g A0 c0 A1 c1 A2 c2 b3 c3 A4 c4 w' ∧ Below X.heap.size X w' from fun X g1 T hg hX => by
    have hB : Below X.heap.size X (X.alloc (.cells #[.int .i64 8, .int .i64 8, .int .i64 8, .int .i64 1, .int .i64 (m : Int)] T)) := (Below.refl _ _).alloc (Nat.le_refl _) _
    have q := CT.cut_any A (some ⟨g1, 0, none⟩) n c 5 5 b [8, 8, 8, 1, (m : Int)] _ ((hr.below hX).below hB) (rdI5 X g1 hg T m (by omega)) (by omega) (by omega)
    rw [cut_parts b n m hl h25 hm] at q
    refine q.mono fun e w' h => ?_
    obtain ⟨g, cg, A0, c0, A1, c1, A2, c2, b3, c3, A4, c4, h1, h2, h3⟩ := cut_pts hl h25 hm h
    rw [World.size_alloc] at h2
    exact ⟨g, cg, A0, c0, A1, c1, A2, c2, b3, c3, A4, c4, h1, h2, hB.trans (h3.mono hB.size)⟩)
  have d1 : (n : Int) - 25 = (m : Int) := by omega
  have d2 : wrap64 ((n : Int) - 25) = (m : Int) := by rw [d1]; exact (wrap_nat m (by omega)).1
  have d3 : wrap64 (m : Int) = (m : Int) := (wrap_nat m (by omega)).1
  have TL := Lib.hid (show ∀ X A c xs v, Rd X A 8 c xs → v = getL xs → Calls Tryz.prog 105 #[.slice A 8 c] X fun e w' => e = .returned (.int .u64 (v : Int)) ∧ X = w' from fun X A c xs v h hv => by rw [hv]; exact ltold_any A 8 c xs X (by omega) h)
  have HV := Lib.hid (show v0 = getL (b.take 8) ∧ v1 = getL ((b.drop 8).take 8) ∧ v2 = getL ((b.drop 16).take 8) ∧ u = ((b.getD 24 0).toNat : Int) from ⟨hv0, hv1, hv2, hu⟩)
  obtain ⟨g0, hg0⟩ : ∃ g, w.heap.size = g := ⟨_, rfl⟩
  obtain ⟨w0, hw0⟩ : ∃ w0, w.alloc (.cells #[.int .u64 0, .int .u64 0, .int .u64 0, .int .u64 0, .bool false, .slice none 0 0] 90) = w0 := ⟨_, rfl⟩
  have K0 := Lib.hid (show Bk w0 g0 90 #[.int .u64 0, .int .u64 0, .int .u64 0, .int .u64 0, .bool false, .slice none 0 0] by rw [← hw0]; exact Bk.newAt _ _ _ _ hg0)
  have B0 := Lib.hid (show Below w.heap.size w w0 by rw [← hw0]; exact (Below.refl _ _).alloc (Nat.le_refl _) _)
  have HG := Lib.hid hg0
  have HW0 := Lib.hid hw0
  have HB := Lib.hid (show 25 ≤ n ∧ n ≤ 100000 from ⟨h25, hn⟩)
  clear hr hl hm hv0 hv1 hv2 hu hfl hg0 hw0 h25 hn
  go_enter Tryz.func76, Tryz.ntmps76
  go_upto_region 1 with (fail)
  rw [HW0.out, HG.out]
  go_upto_region 2 with (go_at_call 104; ((with_reducible refine (CUT.out w0 _ _ rfl B0.out).mono ?_); rintro e w1 ⟨g, cg, A0, c0, A1, c1, A2, c2, b3, c3, A4, c4, rfl, p1, b1⟩; have P1 := Lib.hid p1; have B1 := Lib.hid (B0.out.trans (b1.mono B0.out.size)); have K1 := Lib.hid (K0.out.below b1 K0.out.lt); clear p1 b1))
  clear d1 d2 d3
  obtain ⟨pa, hpa⟩ : ∃ pa, w1.heap.size = pa := ⟨_, rfl⟩
  have PA := Lib.hid hpa
  clear hpa
  have GD1 := Lib.hid (Below.refl w1.heap.size w1).drew
  have KX := Lib.hid (show ∀ X, Below w1.heap.size w1 X → X.cell? ⟨g, 0, none⟩ = some (.slice A0 8 c0) ∧ X.cell? ⟨g, 1, none⟩ = some (.slice A1 8 c1) ∧ X.cell? ⟨g, 2, none⟩ = some (.slice A2 8 c2) ∧ X.cell? ⟨g, 3, none⟩ = some (.slice (some ⟨b3, 0, none⟩) 1 c3) ∧ X.cell? ⟨b3, 0, none⟩ = some (.int .u8 u) from fun X hX => by
    have q := P1.out.below hX
    rw [HV.out.2.2.2]
    exact ⟨q.k0, q.k1, q.k2, q.k3, q.k5⟩)
  have T0 := (show ∀ X, Below w1.heap.size w1 X → Calls Tryz.prog 105 #[.slice A0 8 c0] X fun e w' => e = .returned (.int .u64 (v0 : Int)) ∧ X = w' from fun X hX => TL.out X A0 c0 _ v0 (P1.out.below hX).r0 HV.out.1)
  have T1 := (show ∀ X, Below w1.heap.size w1 X → Calls Tryz.prog 105 #[.slice A1 8 c1] X fun e w' => e = .returned (.int .u64 (v1 : Int)) ∧ X = w' from fun X hX => TL.out X A1 c1 _ v1 (P1.out.below hX).r1 HV.out.2.1)
  have T2 := (show ∀ X, Below w1.heap.size w1 X → Calls Tryz.prog 105 #[.slice A2 8 c2] X fun e w' => e = .returned (.int .u64 (v2 : Int)) ∧ X = w' from fun X hX => TL.out X A2 c2 _ v2 (P1.out.below hX).r2 HV.out.2.2.1)
  have GDA := Lib.hid (fun o => (show Below w1.heap.size w1 (w1.alloc o).drew from ((Below.refl _ _).alloc (Nat.le_refl _) o).drew))
  have T0a := Lib.hid (T0 _ GD1.out)
  have T0b := Lib.hid (fun o => T0 _ (GDA.out o))
  have T1a := Lib.hid (T1 _ GD1.out)
  have T1b := Lib.hid (fun o => T1 _ (GDA.out o))
  have T2a := Lib.hid (T2 _ GD1.out)
  have T2b := Lib.hid (fun o => T2 _ (GDA.out o))
  clear T0 T1 T2
  (go_region_held3 (fun X => X.cell? ⟨g, 0, none⟩ = some (.slice A0 8 c0) ∧ X.cell? ⟨g, 1, none⟩ = some (.slice A1 8 c1) ∧ X.cell? ⟨g, 2, none⟩ = some (.slice A2 8 c2) ∧ X.cell? ⟨g, 3, none⟩ = some (.slice (some ⟨b3, 0, none⟩) 1 c3) ∧ X.cell? ⟨b3, 0, none⟩ = some (.int .u8 u)) (first
    | exact KX.out _ (GDA.out _)
    | exact KX.out _ GD1.out) (first
    | (go_at_call 105; ((first | with_reducible refine T0a.out.mono ?_ | with_reducible refine (T0b.out _).mono ?_); rintro e wq ⟨rfl, rfl⟩))
    | (go_at_call 105; ((first | with_reducible refine T1a.out.mono ?_ | with_reducible refine (T1b.out _).mono ?_); rintro e wq ⟨rfl, rfl⟩))
    | (go_at_call 105; ((first | with_reducible refine T2a.out.mono ?_ | with_reducible refine (T2b.out _).mono ?_); rintro e wq ⟨rfl, rfl⟩))
    | fail))
  all_goals
    have K2 := Lib.hid (show Bk (w1.alloc (.cells #[.int .u64 (v0 : Int), .int .u64 (v1 : Int), .int .u64 (v2 : Int), .int .u64 0, .bool fl] 46)).drew pa 46 #[.int .u64 (v0 : Int), .int .u64 (v1 : Int), .int .u64 (v2 : Int), .int .u64 0, .bool fl] from (Bk.newAt w1 _ _ _ PA.out).drew)
    have B2 := Lib.hid (GDA.out (.cells #[.int .u64 (v0 : Int), .int .u64 (v1 : Int), .int .u64 (v2 : Int), .int .u64 0, .bool fl] 46))
    obtain ⟨w2, hw2⟩ : ∃ w2, (w1.alloc (.cells #[.int .u64 (v0 : Int), .int .u64 (v1 : Int), .int .u64 (v2 : Int), .int .u64 0, .bool fl] 46)).drew = w2 := ⟨_, rfl⟩
    rw [hw2] at K2 B2
    rw [hw2, PA.out]
    clear hw2
    have k2 := K2.out.cell 2
    have k3 := K2.out.cell 3
    have f3 := K2.out.frozen 3
    simp only [List.getElem?_toArray, List.getElem?_cons_zero, List.getElem?_cons_succ] at k2 k3
    go_upto_region 4 with (fail)
    have K3 := Lib.hid (K2.out.put 3 (.int .u64 (v2 : Int)))
    have B3 := Lib.hid (show Below w1.heap.size w1 (w2.setCell ⟨pa, 3, none⟩ (.int .u64 (v2 : Int))) from B2.out.setCell (Nat.le_of_eq PA.out) _)
    obtain ⟨w3, hw3⟩ : ∃ w3, w2.setCell ⟨pa, 3, none⟩ (.int .u64 (v2 : Int)) = w3 := ⟨_, rfl⟩
    rw [hw3] at K3 B3
    rw [hw3]
    clear hw3 k2 k3 f3 K2 B2
    have KR := Lib.hid (K1.out.below B3.out K1.out.lt)
    have P3 := Lib.hid (P1.out.below B3.out)
    have NPG := Lib.hid (show pa ≠ g0 ∧ g ≠ g0 from ⟨fun e => by have := K1.out.lt; have := PA.out; omega, fun e => by have := P1.out.ng; have := K0.out.lt; omega⟩)
    have SS : ∀ X : World, (∀ b, b ≠ g0 → X.heap[b]? = w3.heap[b]?) → X.cell? ⟨pa, 0, none⟩ = some (.int .u64 (v0 : Int)) ∧ X.cell? ⟨pa, 1, none⟩ = some (.int .u64 (v1 : Int)) ∧ X.cell? ⟨pa, 2, none⟩ = some (.int .u64 (v2 : Int)) ∧ X.cell? ⟨pa, 3, none⟩ = some (.int .u64 (v2 : Int)) ∧ X.cell? ⟨pa, 4, none⟩ = some (.bool fl) ∧ X.cell? ⟨g, 4, none⟩ = some (.slice A4 m c4) := fun X hX => by
      have q : Bk X pa _ _ := (hX pa NPG.out.1).trans K3.out
      exact ⟨q.cell 0, q.cell 1, q.cell 2, q.cell 3, q.cell 4, (World.cell?_of_block (a := ⟨g, 4, none⟩) (hX g NPG.out.2)).trans P3.out.k4⟩
    have SD := Lib.hid (show w3.drew.cell? ⟨pa, 0, none⟩ = some (.int .u64 (v0 : Int)) ∧ w3.drew.cell? ⟨pa, 1, none⟩ = some (.int .u64 (v1 : Int)) ∧ w3.drew.cell? ⟨pa, 2, none⟩ = some (.int .u64 (v2 : Int)) ∧ w3.drew.cell? ⟨pa, 3, none⟩ = some (.int .u64 (v2 : Int)) ∧ w3.drew.cell? ⟨pa, 4, none⟩ = some (.bool fl) ∧ w3.drew.cell? ⟨g, 4, none⟩ = some (.slice A4 m c4) from SS w3.drew fun b _ => rfl)
    have h6 : ∀ b, b ≠ g0 → ((((((w3.setCell ⟨g0, 0, none⟩ (.int .u64 (v0 : Int))).setCell ⟨g0, 1, none⟩ (.int .u64 (v1 : Int))).setCell ⟨g0, 2, none⟩ (.int .u64 (v2 : Int))).setCell ⟨g0, 3, none⟩ (.int .u64 (v2 : Int))).setCell ⟨g0, 4, none⟩ (.bool fl)).setCell ⟨g0, 5, none⟩ (.slice A4 m c4)).heap[b]? = w3.heap[b]? := fun b hb => st6_far w3 g0 ⟨v0, v1, v2, v2, fl⟩ A4 m c4 b hb
    have S6 := Lib.hid (show ((((((w3.setCell ⟨g0, 0, none⟩ (.int .u64 (v0 : Int))).setCell ⟨g0, 1, none⟩ (.int .u64 (v1 : Int))).setCell ⟨g0, 2, none⟩ (.int .u64 (v2 : Int))).setCell ⟨g0, 3, none⟩ (.int .u64 (v2 : Int))).setCell ⟨g0, 4, none⟩ (.bool fl)).setCell ⟨g0, 5, none⟩ (.slice A4 m c4)).drew.cell? ⟨pa, 0, none⟩ = some (.int .u64 (v0 : Int)) ∧ ((((((w3.setCell ⟨g0, 0, none⟩ (.int .u64 (v0 : Int))).setCell ⟨g0, 1, none⟩ (.int .u64 (v1 : Int))).setCell ⟨g0, 2, none⟩ (.int .u64 (v2 : Int))).setCell ⟨g0, 3, none⟩ (.int .u64 (v2 : Int))).setCell ⟨g0, 4, none⟩ (.bool fl)).setCell ⟨g0, 5, none⟩ (.slice A4 m c4)).drew.cell? ⟨pa, 1, none⟩ = some (.int .u64 (v1 : Int)) ∧ ((((((w3.setCell ⟨g0, 0, none⟩ (.int .u64 (v0 : Int))).setCell ⟨g0, 1, none⟩ (.int .u64 (v1 : Int))).setCell ⟨g0, 2, none⟩ (.int .u64 (v2 : Int))).setCell ⟨g0, 3, none⟩ (.int .u64 (v2 : Int))).setCell ⟨g0, 4, none⟩ (.bool fl)).setCell ⟨g0, 5, none⟩ (.slice A4 m c4)).drew.cell? ⟨pa, 2, none⟩ = some (.int .u64 (v2 : Int)) ∧ ((((((w3.setCell ⟨g0, 0, none⟩ (.int .u64 (v0 : Int))).setCell ⟨g0, 1, none⟩ (.int .u64 (v1 : Int))).setCell ⟨g0, 2, none⟩ (.int .u64 (v2 : Int))).setCell ⟨g0, 3, none⟩ (.int .u64 (v2 : Int))).setCell ⟨g0, 4, none⟩ (.bool fl)).setCell ⟨g0, 5, none⟩ (.slice A4 m c4)).drew.cell? ⟨pa, 3, none⟩ = some (.int .u64 (v2 : Int)) ∧ ((((((w3.setCell ⟨g0, 0, none⟩ (.int .u64 (v0 : Int))).setCell ⟨g0, 1, none⟩ (.int .u64 (v1 : Int))).setCell ⟨g0, 2, none⟩ (.int .u64 (v2 : Int))).setCell ⟨g0, 3, none⟩ (.int .u64 (v2 : Int))).setCell ⟨g0, 4, none⟩ (.bool fl)).setCell ⟨g0, 5, none⟩ (.slice A4 m c4)).drew.cell? ⟨pa, 4, none⟩ = some (.bool fl) ∧ ((((((w3.setCell ⟨g0, 0, none⟩ (.int .u64 (v0 : Int))).setCell ⟨g0, 1, none⟩ (.int .u64 (v1 : Int))).setCell ⟨g0, 2, none⟩ (.int .u64 (v2 : Int))).setCell ⟨g0, 3, none⟩ (.int .u64 (v2 : Int))).setCell ⟨g0, 4, none⟩ (.bool fl)).setCell ⟨g0, 5, none⟩ (.slice A4 m c4)).drew.cell? ⟨g, 4, none⟩ = some (.slice A4 m c4) from SS _ fun b hb => by rw [drew_heap]; exact h6 b hb)
    clear SS h6
    have j0 := KR.out.cell 0
    have j1 := KR.out.cell 1
    have j2 := KR.out.cell 2
    have j3 := KR.out.cell 3
    have j4 := KR.out.cell 4
    have j5 := KR.out.cell 5
    have z0 := KR.out.frozen 0
    have z1 := KR.out.frozen 1
    have z2 := KR.out.frozen 2
    have z3 := KR.out.frozen 3
    have z4 := KR.out.frozen 4
    have z5 := KR.out.frozen 5
    have i0 := KR.out.drew.cell 0
    have i1 := KR.out.drew.cell 1
    have i2 := KR.out.drew.cell 2
    have i3 := KR.out.drew.cell 3
    have i4 := KR.out.drew.cell 4
    have i5 := KR.out.drew.cell 5
    have y0 := KR.out.drew.frozen 0
    have y1 := KR.out.drew.frozen 1
    have y2 := KR.out.drew.frozen 2
    have y3 := KR.out.drew.frozen 3
    have y4 := KR.out.drew.frozen 4
    have y5 := KR.out.drew.frozen 5
    simp only [List.getElem?_toArray, List.getElem?_cons_zero, List.getElem?_cons_succ] at i0 i1 i2 i3 i4 i5 j0 j1 j2 j3 j4 j5
    (go_region_held3 (fun X => X.cell? ⟨pa, 0, none⟩ = some (.int .u64 (v0 : Int)) ∧ X.cell? ⟨pa, 1, none⟩ = some (.int .u64 (v1 : Int)) ∧ X.cell? ⟨pa, 2, none⟩ = some (.int .u64 (v2 : Int)) ∧ X.cell? ⟨pa, 3, none⟩ = some (.int .u64 (v2 : Int)) ∧ X.cell? ⟨pa, 4, none⟩ = some (.bool fl) ∧ X.cell? ⟨g, 4, none⟩ = some (.slice A4 m c4)) (first
      | with_reducible exact S6.out
      | with_reducible exact SD.out) (fail))
    go_wp2_with (fail)
    have KF := (((((((KR.out.put 0 (.int .u64 (v0 : Int))).put 1 (.int .u64 (v1 : Int))).put 2 (.int .u64 (v2 : Int))).put 3 (.int .u64 (v2 : Int))).put 4 (.bool fl)).put 5 (.slice A4 m c4)).drew)
    have M6 := (st6_mv (N := g0) (Nat.le_refl _) w3 ⟨v0, v1, v2, v2, fl⟩ A4 m c4)
    refine bodyPost_ret (results_cell_row rfl _ _ g0 90 #[.int .u64 (v0 : Int), .int .u64 (v1 : Int), .int .u64 (v2 : Int), .int .u64 (v2 : Int), .bool fl, .slice A4 m c4] (0, 0) _ rfl KF Tryz.underlying90 rfl Tryz.infoNc) rfl ?_
    refine ⟨A4, c4, rfl, (M6.rd P3.out.r4 fun a h0 ha e => ?_).drew, fun a h0 ha => ?_, ?_⟩
    · have := P3.out.far a h0 ha
      have := K0.out.lt
      have e' : a.block = g0 := e
      omega
    · have := P3.out.far a h0 ha
      have := B0.out.size
      omega
    · exact ((B1.out.trans (B3.out.mono B1.out.size)).trans (M6.bel.mono (Nat.le_of_eq HG.out))).drew
end Go.Proofs.YtnoflgkjdibblaaGreatDoor.S21

/-
  The landed Read. No statement is proved here.
-/
namespace Go.Proofs.YtnoflgkjdibblaaGreatDoor.S21
set_option linter.unusedSimpArgs false
set_option linter.unusedVariables false
set_option maxRecDepth 8192
open Go.RowKit S19 S20

theorem res_cell2 {P : Program} {fn : Func} {p q u : Tmp} {ty : TypeId} (h : fn.results = #[.cell p ty, .tmp q, .tmp u]) (tmps : Array Value) (w : World) (g : Nat) (t : TypeId) (cs : Array Value) (x y : Value) (d : TypeDesc)
    (hp : tmps.getD p undef = .pointer (some ⟨g, 0, none⟩)) (hg : Bk w g t cs) (hu : P.underlying ty = some d) (hd : (match d with | .struct _ | .array _ _ => true | _ => false) = true) (hi : (P.info? ty).map (·.size) = some cs.size)
    (hq : tmps.getD q undef = x) (hy : tmps.getD u undef = y) : (results fn tmps).run P w = .ok (.tuple #[.agg cs, x, y]) w := by
  have hp' : tmps[p]?.getD undef = .pointer (some ⟨g, 0, none⟩) := by simpa using hp
  have hq' : tmps[q]?.getD undef = x := by simpa using hq
  have hy' : tmps[u]?.getD undef = y := by simpa using hy
  simp [results, h, hp', hq', hy', asAddr, run_loadVar_row w g t ty cs (0, 0) d hg hu hd hi]
theorem Tryz.infoCt : (Tryz.prog.info? 46).map (·.size) = some 5 := by kernel_rfl
abbrev zC : Array Value := #[.int .u64 0, .int .u64 0, .int .u64 0, .int .u64 0, .bool false]
/-- Is what may be written so? -/
theorem same_read {b : List UInt8} {n : Nat} (hl : b.length = n) (h25 : 25 ≤ n) (hm : (Cn.ofB b).May (n - 25)) : sameB ((Cn.ofB b).row (b.drop 25)) b = decide (Cn.readC b = 0) := by
  by_cases h : Cn.readC b = 0
  · rw [Cn.row_ofB h, sameB_refl, decide_eq_true h]
  · rw [decide_eq_false h]
    unfold sameB
    rw [beq_eq_false_iff_ne]
    intro e
    apply h
    unfold Cn.readC
    rw [if_neg (by omega), if_neg]
    rintro (g | g)
    · have q := Cn.row_e (Cn.ofB b) (b.drop 25)
      rw [e] at q
      rw [q] at g
      unfold Cn.flag at g
      split at g
      · exact absurd g (by decide)
      · exact absurd g (by decide)
    · exact g (by rw [hl]; exact hm)
set_option maxHeartbeats 16000000 in
theorem lread_any (A : Option Addr) (n c : Nat) (b : List UInt8) (w : World) (hr : Rd w A n c b) (hn : n ≤ 100000) : Calls Tryz.prog 46 #[.slice A n c] w fun e w' => ∃ A' c', e = .returned (.tuple #[.agg (Cn.readX b).cells, .slice A' (Cn.readH b).length c', .int .i64 (Cn.readC b : Int)]) ∧ Rd w' A' (Cn.readH b).length c' (Cn.readH b) ∧ (∀ a, 0 < (Cn.readH b).length → A' = some a → w.heap.size ≤ a.block) ∧ Below w.heap.size w w' := by
  have hl := hr.len
  have hf := Cn.ofB_fit b
  obtain ⟨g0, hg0⟩ : ∃ g, w.heap.size = g := ⟨_, rfl⟩
  obtain ⟨w0, hw0⟩ : ∃ w0, w.alloc (.cells zC 46) = w0 := ⟨_, rfl⟩
  have K0 := Lib.hid (show Bk w0 g0 46 zC by rw [← hw0]; exact Bk.newAt _ _ _ _ hg0)
  have B0 := Lib.hid (show Below w.heap.size w w0 by rw [← hw0]; exact (Below.refl _ _).alloc (Nat.le_refl _) _)
  have HG := Lib.hid hg0
  have HW0 := Lib.hid hw0
  have PUTZ := fun (X : World) (h : Bk X g0 46 zC) => (((((h.put 0 (.int .u64 0)).put 1 (.int .u64 0)).put 2 (.int .u64 0)).put 3 (.int .u64 0)).put 4 (.bool false))
  have hle : w.heap.size ≤ g0 := Nat.le_of_eq hg0
  have BZ := fun (X : World) (h : Below w.heap.size w X) => (((((h.setCell (p := ⟨g0, 0, none⟩) hle (.int .u64 0)).setCell (p := ⟨g0, 1, none⟩) hle (.int .u64 0)).setCell (p := ⟨g0, 2, none⟩) hle (.int .u64 0)).setCell (p := ⟨g0, 3, none⟩) hle (.int .u64 0)).setCell (p := ⟨g0, 4, none⟩) hle (.bool false))
  replace PUTZ := Lib.hid PUTZ
  replace BZ := Lib.hid BZ
  have KF := Lib.hid (show ∀ X, Bk X g0 46 zC → (X.cell? ⟨g0, 0, none⟩ = some (.int .u64 0) ∧ X.cell? ⟨g0, 1, none⟩ = some (.int .u64 0) ∧ X.cell? ⟨g0, 2, none⟩ = some (.int .u64 0) ∧ X.cell? ⟨g0, 3, none⟩ = some (.int .u64 0) ∧ X.cell? ⟨g0, 4, none⟩ = some (.bool false)) ∧ (X.frozen? ⟨g0, 0, none⟩ = false ∧ X.frozen? ⟨g0, 1, none⟩ = false ∧ X.frozen? ⟨g0, 2, none⟩ = false ∧ X.frozen? ⟨g0, 3, none⟩ = false ∧ X.frozen? ⟨g0, 4, none⟩ = false) from fun X h => ⟨⟨h.cell 0, h.cell 1, h.cell 2, h.cell 3, h.cell 4⟩, h.frozen 0, h.frozen 1, h.frozen 2, h.frozen 3, h.frozen 4⟩)
  by_cases h25 : 25 ≤ n
  rotate_left
  · have e1 : Cn.readC b = 2 := by unfold Cn.readC; rw [if_pos (by omega)]
    have e2 : Cn.readX b = Cn.zero := by simp [Cn.readX, e1]
    have e3 : Cn.readH b = [] := by simp [Cn.readH, e1]
    rw [e1, e2, e3]
    have t1 : (n : Int) < 25 := by omega
    obtain ⟨⟨j0, j1, j2, j3, j4⟩, z0, z1, z2, z3, z4⟩ := KF.out w0 K0.out
    clear e1 e2 e3 hl hr hf h25 hn hg0 hw0 hle
    go_enter Tryz.func46, Tryz.ntmps46
    go_upto_region 1 with (fail)
    rw [HW0.out, HG.out]
    go_wp2_with (fail)
    refine bodyPost_ret (res_cell2 rfl _ _ g0 46 zC _ _ _ rfl (PUTZ.out _ K0.out) Tryz.underlying46 rfl Tryz.infoCt rfl rfl) rfl ?_
    exact ⟨none, 0, rfl, Rd.nil_ _, (fun a h e => by cases e), BZ.out _ B0.out⟩
  have t1 : ¬ (n : Int) < 25 := by omega
  obtain ⟨m, hm⟩ : ∃ m, m = n - 25 := ⟨_, rfl⟩
  have hsame := fun h => same_read hl h25 (b := b) h
  rw [← hm] at hsame
  obtain ⟨hd, hhd⟩ : ∃ v, v = b.drop 25 := ⟨_, rfl⟩
  obtain ⟨y, hy⟩ : ∃ v, v = Cn.ofB b := ⟨_, rfl⟩
  rw [← hhd, ← hy] at hsame
  have hdl : hd.length = m := by rw [hhd, hm]; simp [hl]
  have R0 := Lib.hid hr
  have PT := Lib.hid (show ∀ X, Below w.heap.size w X → Calls Tryz.prog 76 #[.slice A n c] X fun e w' => ∃ A' c', e = .returned (.agg (ncA y A' m c')) ∧ Rd w' A' m c' hd ∧ (∀ a, 0 < m → A' = some a → X.heap.size ≤ a.block) ∧ Below X.heap.size X w' from fun X hX => by rw [hy, hhd, hm]; exact lparts_any A n c b X (hr.below hX) h25 hn)
  have MY := Lib.hid (show ∀ X A c, Calls Tryz.prog 33 #[.agg (ncA y A m c)] X fun e w' => e = .returned (.bool (decide (y.May m))) ∧ Below X.heap.size X w' from fun X A c => lmay_any y A m c X)
  have BY := Lib.hid (show ∀ X A c, Rd X A m c hd → Calls Tryz.prog 36 #[.agg (ncA y A m c)] X (New X.heap.size X (y.row hd)) from fun X A c h => lbytes_any y (by rw [hy]; exact hf) A m c hd X h (by omega))
  have BW := Lib.hid (show ∀ X, Below w.heap.size w X → Rd X A n c b from fun X hX => hr.below hX)
  obtain ⟨my, hmy⟩ : ∃ v, v = decide (y.May m) := ⟨_, rfl⟩
  rw [← hmy] at MY
  have RC := Lib.hid (show (y.May m → Cn.readC b = 0 ∧ Cn.readX b = y ∧ Cn.readH b = hd ∨ Cn.readC b = 3 ∧ Cn.readX b = Cn.zero ∧ Cn.readH b = []) ∧ (¬ y.May m → Cn.readC b = 3 ∧ Cn.readX b = Cn.zero ∧ Cn.readH b = []) from by
    have e3 : Cn.readC b = 3 → Cn.readX b = Cn.zero ∧ Cn.readH b = [] := fun e => ⟨by simp [Cn.readX, e], by simp [Cn.readH, e]⟩
    have e4 : Cn.readC b = if 1 < (b.getD 24 0).toNat ∨ ¬ y.May m then 3 else 0 := by
      unfold Cn.readC
      rw [if_neg (by omega), hl, ← hy, ← hm]
    refine ⟨fun h => ?_, fun h => ?_⟩
    · by_cases g : 1 < (b.getD 24 0).toNat ∨ ¬ y.May m
      · rw [if_pos g] at e4; exact .inr ⟨e4, e3 e4⟩
      · rw [if_neg g] at e4; exact .inl ⟨e4, by rw [hy]; exact if_pos e4, by rw [hhd]; exact if_pos e4⟩
    · rw [if_pos (.inr h)] at e4; exact ⟨e4, e3 e4⟩)
  obtain ⟨row, hrow⟩ : ∃ v, v = y.row hd := ⟨_, rfl⟩
  rw [← hrow] at BY hsame
  obtain ⟨tt, bb, rr, nx, gn⟩ := y
  replace PT := Lib.hid (show ∀ X, Below w.heap.size w X → Calls Tryz.prog 76 #[.slice A n c] X fun e w' => ∃ A' c', e = .returned (.agg #[.int .u64 (tt : Int), .int .u64 (bb : Int), .int .u64 (rr : Int), .int .u64 (nx : Int), .bool gn, .slice A' m c']) ∧ Rd w' A' m c' hd ∧ (∀ a, 0 < m → A' = some a → X.heap.size ≤ a.block) ∧ Below X.heap.size X w' from PT.out)
  replace MY := Lib.hid (show ∀ X A c, Calls Tryz.prog 33 #[.agg #[.int .u64 (tt : Int), .int .u64 (bb : Int), .int .u64 (rr : Int), .int .u64 (nx : Int), .bool gn, .slice A m c]] X fun e w' => e = .returned (.bool my) ∧ Below X.heap.size X w' from MY.out)
  replace BY := Lib.hid (show ∀ X A c, Rd X A m c hd → Calls Tryz.prog 36 #[.agg #[.int .u64 (tt : Int), .int .u64 (bb : Int), .int .u64 (rr : Int), .int .u64 (nx : Int), .bool gn, .slice A m c]] X (New X.heap.size X row) from BY.out)
  have HDL := Lib.hid hdl
  have HSM := Lib.hid hsame
  have HMY := Lib.hid hmy
  obtain ⟨bs, hbs⟩ : ∃ v, v = sameB row b := ⟨_, rfl⟩
  have HBS := Lib.hid hbs
  clear hr hg0 hw0 hf hy hhd hn hle hsame hrow hdl hl hm h25 hmy hbs
  go_enter Tryz.func46, Tryz.ntmps46
  go_upto_region 1 with (fail)
  rw [HW0.out, HG.out]
  go_upto_region 4 with (go_at_call 76; ((with_reducible refine (PT.out w0 B0.out).mono ?_); rintro e w1 ⟨A1, c1, rfl, r1, f1, b1⟩; have R1 := Lib.hid r1; have F1 := Lib.hid f1; have B01 := Lib.hid b1; have B1 := Lib.hid (B0.out.trans (b1.mono B0.out.size)); have K1 := Lib.hid (K0.out.below b1 K0.out.lt); clear r1 f1 b1))
  obtain ⟨pa, hpa⟩ : ∃ pa, w1.heap.size = pa := ⟨_, rfl⟩
  have PA := Lib.hid hpa
  obtain ⟨w2, hw2⟩ : ∃ w2, w1.alloc (.cells #[.int .u64 (tt : Int), .int .u64 (bb : Int), .int .u64 (rr : Int), .int .u64 (nx : Int), .bool gn, .slice A1 m c1] 90) = w2 := ⟨_, rfl⟩
  have T2 := Lib.hid (show Bk w2 pa 90 #[.int .u64 (tt : Int), .int .u64 (bb : Int), .int .u64 (rr : Int), .int .u64 (nx : Int), .bool gn, .slice A1 m c1] by rw [← hw2]; exact Bk.newAt _ _ _ _ hpa)
  have B12 := Lib.hid (show Below w1.heap.size w1 w2 by rw [← hw2]; exact (Below.refl _ _).alloc (Nat.le_refl _) _)
  rw [hw2, hpa]
  clear hw2 hpa
  have B2 := Lib.hid (B1.out.trans (B12.out.mono B1.out.size))
  have K2 := Lib.hid (K1.out.below B12.out K1.out.lt)
  have R2 := Lib.hid (R1.out.below B12.out)
  have NPG := Lib.hid (show pa ≠ g0 from fun e => by have := K1.out.lt; have := PA.out; omega)
  have TC := Lib.hid (show ∀ X : World, X.heap[pa]? = w2.heap[pa]? → X.cell? ⟨pa, 0, none⟩ = some (.int .u64 (tt : Int)) ∧ X.cell? ⟨pa, 1, none⟩ = some (.int .u64 (bb : Int)) ∧ X.cell? ⟨pa, 2, none⟩ = some (.int .u64 (rr : Int)) ∧ X.cell? ⟨pa, 3, none⟩ = some (.int .u64 (nx : Int)) ∧ X.cell? ⟨pa, 4, none⟩ = some (.bool gn) ∧ X.cell? ⟨pa, 5, none⟩ = some (.slice A1 m c1) from fun X hX => by
    have q : Bk X pa _ _ := hX.trans T2.out
    exact ⟨q.cell 0, q.cell 1, q.cell 2, q.cell 3, q.cell 4, q.cell 5⟩)
  obtain ⟨k0, k1, k2, k3, k4, k5⟩ := TC.out w2 rfl
  by_cases hM : my = true
  · subst hM
    have hMay := of_decide_eq_true HMY.out.symm
    have HS := Lib.hid (HSM.out hMay)
    have HC := Lib.hid (RC.out.1 hMay)
    clear hMay
    by_cases hz : Cn.readC b = 0
    · have hb1 : sameB row b = true := by rw [HS.out, decide_eq_true hz]
      have SM := Lib.hid (show ∀ A4 n4 c4 X, Rd X A4 n4 c4 row → Rd X A n c b → Calls Tryz.prog 77 #[.slice A4 n4 c4, .slice A n c] X fun e w' => e = .returned (.bool true) ∧ X = w' from fun A4 n4 c4 X h1 h2 => (same_any A4 A n4 c4 n c row b X h1 h2).mono fun e w' ⟨q1, q2⟩ => ⟨by rw [q1, hb1], q2⟩)
      have HE := Lib.hid (show Cn.readC b = 0 ∧ Cn.readX b = ⟨tt, bb, rr, nx, gn⟩ ∧ Cn.readH b = hd from HC.out.resolve_right (fun e => by have := e.1; omega))
      clear hz hb1
      go_upto_region 6 with (first
        | (go_at_call 33; ((with_reducible refine (MY.out w2 A1 c1).mono ?_); rintro e w3 ⟨rfl, b3⟩; have B23 := Lib.hid b3; have B3 := Lib.hid (B2.out.trans (b3.mono B2.out.size)); have K3 := Lib.hid (K2.out.below b3 K2.out.lt); have R3 := Lib.hid (R2.out.below b3); clear b3 k0 k1 k2 k3 k4 k5; obtain ⟨k0, k1, k2, k3, k4, k5⟩ := TC.out w3 (B23.out.block pa T2.out.lt)))
        | (go_at_call 36; ((with_reducible refine (BY.out w3 A1 c1 R3.out).mono ?_); rintro e w4 ⟨A4, n4, c4, rfl, o4, b4⟩; have O4 := Lib.hid (Rd.own o4); have B24 := Lib.hid (B23.out.trans (b4.mono B23.out.size)); have B4 := Lib.hid (B3.out.trans (b4.mono B3.out.size)); have K4 := Lib.hid (K3.out.below b4 K3.out.lt); have R4 := Lib.hid (R3.out.below b4); clear o4 b4 k0 k1 k2 k3 k4 k5))
        | (go_at_call 77; ((with_reducible refine (SM.out A4 n4 c4 w4 O4.out (BW.out w4 B4.out)).mono ?_); rintro e w9 ⟨rfl, rfl⟩)))
      obtain ⟨⟨j0, j1, j2, j3, j4⟩, z0, z1, z2, z3, z4⟩ := KF.out w4 K4.out
      obtain ⟨⟨i0, i1, i2, i3, i4⟩, y0, y1, y2, y3, y4⟩ := KF.out w4.drew K4.out.drew
      have SS := TC.out w4.drew (show w4.drew.heap[pa]? = w2.heap[pa]? by rw [drew_heap]; exact B24.out.block pa T2.out.lt)
      have SD := Lib.hid SS
      have h5 : ∀ b, b ≠ g0 → (((((w4.setCell ⟨g0, 0, none⟩ (.int .u64 (tt : Int))).setCell ⟨g0, 1, none⟩ (.int .u64 (bb : Int))).setCell ⟨g0, 2, none⟩ (.int .u64 (rr : Int))).setCell ⟨g0, 3, none⟩ (.int .u64 (nx : Int))).setCell ⟨g0, 4, none⟩ (.bool gn)).heap[b]? = w4.heap[b]? := fun b hb => (Below.heap_setCell _ ⟨g0, 4, none⟩ _ b hb).trans ((Below.heap_setCell _ ⟨g0, 3, none⟩ _ b hb).trans ((Below.heap_setCell _ ⟨g0, 2, none⟩ _ b hb).trans ((Below.heap_setCell _ ⟨g0, 1, none⟩ _ b hb).trans (Below.heap_setCell _ ⟨g0, 0, none⟩ _ b hb))))
      have S5 := Lib.hid (TC.out (((((w4.setCell ⟨g0, 0, none⟩ (.int .u64 (tt : Int))).setCell ⟨g0, 1, none⟩ (.int .u64 (bb : Int))).setCell ⟨g0, 2, none⟩ (.int .u64 (rr : Int))).setCell ⟨g0, 3, none⟩ (.int .u64 (nx : Int))).setCell ⟨g0, 4, none⟩ (.bool gn)).drew (by rw [drew_heap]; exact (h5 pa NPG.out).trans (B24.out.block pa T2.out.lt)))
      clear SS h5
      (go_region_held3 (fun X => X.cell? ⟨pa, 0, none⟩ = some (.int .u64 (tt : Int)) ∧ X.cell? ⟨pa, 1, none⟩ = some (.int .u64 (bb : Int)) ∧ X.cell? ⟨pa, 2, none⟩ = some (.int .u64 (rr : Int)) ∧ X.cell? ⟨pa, 3, none⟩ = some (.int .u64 (nx : Int)) ∧ X.cell? ⟨pa, 4, none⟩ = some (.bool gn) ∧ X.cell? ⟨pa, 5, none⟩ = some (.slice A1 m c1)) (first
        | with_reducible exact S5.out
        | with_reducible exact SD.out) (fail))
      go_wp2_with (fail)
      refine bodyPost_ret (res_cell2 rfl _ _ g0 46 #[.int .u64 (tt : Int), .int .u64 (bb : Int), .int .u64 (rr : Int), .int .u64 (nx : Int), .bool gn] _ _ _ rfl ((((((K4.out.put 0 (.int .u64 (tt : Int))).put 1 (.int .u64 (bb : Int))).put 2 (.int .u64 (rr : Int))).put 3 (.int .u64 (nx : Int))).put 4 (.bool gn)).drew) Tryz.underlying46 rfl Tryz.infoCt rfl rfl) rfl ?_
      rw [HE.out.1, HE.out.2.1, HE.out.2.2, HDL.out]
      have hle : w.heap.size ≤ g0 := Nat.le_of_eq HG.out
      have M5 : Mv g0 (fun b => b = g0) w4 (((((w4.setCell ⟨g0, 0, none⟩ (.int .u64 (tt : Int))).setCell ⟨g0, 1, none⟩ (.int .u64 (bb : Int))).setCell ⟨g0, 2, none⟩ (.int .u64 (rr : Int))).setCell ⟨g0, 3, none⟩ (.int .u64 (nx : Int))).setCell ⟨g0, 4, none⟩ (.bool gn)) := ((((poke_cc (Nat.le_refl _) w4 0 _).trans (poke_cc (Nat.le_refl _) _ 1 _) fun b hb => .inl hb).trans (poke_cc (Nat.le_refl _) _ 2 _) fun b hb => .inl hb).trans (poke_cc (Nat.le_refl _) _ 3 _) fun b hb => .inl hb).trans (poke_cc (Nat.le_refl _) _ 4 _) fun b hb => .inl hb
      refine ⟨A1, c1, rfl, (M5.rd R4.out fun a h0 ha e => ?_).drew, fun a h0 ha => ?_, (B4.out.trans (M5.bel.mono hle)).drew⟩
      · have := F1.out a h0 ha
        have := K0.out.lt
        have e' : a.block = g0 := e
        omega
      · have := F1.out a h0 ha
        have := B0.out.size
        omega
    · have hb1 : sameB row b = false := by rw [HS.out, decide_eq_false hz]
      have SM := Lib.hid (show ∀ A4 n4 c4 X, Rd X A4 n4 c4 row → Rd X A n c b → Calls Tryz.prog 77 #[.slice A4 n4 c4, .slice A n c] X fun e w' => e = .returned (.bool false) ∧ X = w' from fun A4 n4 c4 X h1 h2 => (same_any A4 A n4 c4 n c row b X h1 h2).mono fun e w' ⟨q1, q2⟩ => ⟨by rw [q1, hb1], q2⟩)
      have HE := Lib.hid (show Cn.readC b = 3 ∧ Cn.readX b = Cn.zero ∧ Cn.readH b = [] from HC.out.resolve_left (fun e => hz e.1))
      clear hz hb1
      go_upto_region 5 with (first
        | (go_at_call 33; ((with_reducible refine (MY.out w2 A1 c1).mono ?_); rintro e w3 ⟨rfl, b3⟩; have B23 := Lib.hid b3; have B3 := Lib.hid (B2.out.trans (b3.mono B2.out.size)); have K3 := Lib.hid (K2.out.below b3 K2.out.lt); have R3 := Lib.hid (R2.out.below b3); clear b3 k0 k1 k2 k3 k4 k5; obtain ⟨k0, k1, k2, k3, k4, k5⟩ := TC.out w3 (B23.out.block pa T2.out.lt)))
        | (go_at_call 36; ((with_reducible refine (BY.out w3 A1 c1 R3.out).mono ?_); rintro e w4 ⟨A4, n4, c4, rfl, o4, b4⟩; have O4 := Lib.hid (Rd.own o4); have B24 := Lib.hid (B23.out.trans (b4.mono B23.out.size)); have B4 := Lib.hid (B3.out.trans (b4.mono B3.out.size)); have K4 := Lib.hid (K3.out.below b4 K3.out.lt); have R4 := Lib.hid (R3.out.below b4); clear o4 b4 k0 k1 k2 k3 k4 k5))
        | (go_at_call 77; ((with_reducible refine (SM.out A4 n4 c4 w4 O4.out (BW.out w4 B4.out)).mono ?_); rintro e w9 ⟨rfl, rfl⟩)))
      obtain ⟨⟨j0, j1, j2, j3, j4⟩, z0, z1, z2, z3, z4⟩ := KF.out w4 K4.out
      go_wp2_with (fail)
      refine bodyPost_ret (res_cell2 rfl _ _ g0 46 zC _ _ _ rfl (PUTZ.out _ K4.out) Tryz.underlying46 rfl Tryz.infoCt rfl rfl) rfl ?_
      rw [HE.out.1, HE.out.2.1, HE.out.2.2]
      exact ⟨none, 0, rfl, Rd.nil_ _, (fun a h e => by cases e), BZ.out _ B4.out⟩
  · obtain rfl : my = false := by simpa using hM
    have HE := Lib.hid (RC.out.2 (of_decide_eq_false HMY.out.symm))
    clear hM
    go_upto_region 5 with (go_at_call 33; ((with_reducible refine (MY.out w2 A1 c1).mono ?_); rintro e w3 ⟨rfl, b3⟩; have B3 := Lib.hid (B2.out.trans (b3.mono B2.out.size)); have K3 := Lib.hid (K2.out.below b3 K2.out.lt); clear b3))
    clear k0 k1 k2 k3 k4 k5
    obtain ⟨⟨j0, j1, j2, j3, j4⟩, z0, z1, z2, z3, z4⟩ := KF.out w3 K3.out
    go_wp2_with (fail)
    refine bodyPost_ret (res_cell2 rfl _ _ g0 46 zC _ _ _ rfl (PUTZ.out _ K3.out) Tryz.underlying46 rfl Tryz.infoCt rfl rfl) rfl ?_
    rw [HE.out.1, HE.out.2.1, HE.out.2.2]
    exact ⟨none, 0, rfl, Rd.nil_ _, (fun a h e => by cases e), BZ.out _ B3.out⟩
end Go.Proofs.YtnoflgkjdibblaaGreatDoor.S21

/-
  The landed counter is saved, and becomes another one. No statement is proved here.
-/
namespace Go.Proofs.YtnoflgkjdibblaaGreatDoor.S21
set_option linter.unusedSimpArgs false
set_option linter.unusedVariables false
set_option maxRecDepth 8192
open Go.RowKit S19 S20

section
section
variable {M : DC} {C : SlC M} {N : Nat} {w w' X Y : World} {cc g s : Nat} {x y : Cn} {h : List UInt8} {D D' : Dk} {Z Z' : Sl} {F S R F' S' : Nat → Prop}
/-- The counter stays where slots and disk have moved. -/
theorem Ki.under (r : Ki N w cc s x h R) (t : Lz M C N w g s D Z F S) (ap : ∀ b, R b → ¬ Or2 F S b) (m : Mv N (Or2 F S) w w') : Ki N w' cc s x h R :=
  r.keep m.size fun b hb hl => m.same b hl (ap b hb)
theorem ap_under (r : Ki N w cc s x h R) (ap : ∀ b, R b → ¬ Or2 F S b) (hs : ∀ b, Or2 F' S' b → Or2 F S b ∨ w.heap.size ≤ b) : ∀ b, R b → ¬ Or2 F' S' b := fun b hb hO => (hs b hO).elim (ap b hb) fun e => by have := (r.lt b hb).2; omega
/-- Slots and disk stay where the counter's own cells have moved. -/
theorem Lz.poked (t : Lz M C N w g s D Z F S) (r : Ki N w cc s x h R) (ap : ∀ b, R b → ¬ Or2 F S b) (m : Mv N (fun b => b = cc) w w') : Lz M C N w' g s D Z F S := by
  have hk : ∀ b, (b < N ∨ Or2 F S b) → b < w.heap.size → w'.heap[b]? = w.heap[b]? := fun b hb hl => m.same b hl fun e => by
    have e' : b = cc := e
    subst e'
    rcases hb with e | e
    · have := (r.lt _ r.at_).1; omega
    · exact ap _ r.at_ e
  exact ⟨M.keep t.is m.size fun b hb hl => hk b (hb.imp id .inl) hl, C.keep t.sl m.size fun b hb hl => hk b (hb.imp id .inr) hl, t.dj, t.zo⟩
/-- A row that is new is saved. -/
theorem lsave_call {row : List UInt8} (t : Lz M C N w g s D Z F S) (hN : N ≤ w.heap.size) (hk : ∀ X, Below w.heap.size w X → C.ok X) (hc : D.cnt < 1099511627000) :
    ∀ X A' lr c', Below w.heap.size w X → Rd X A' lr c' row → (∀ a, A' = some a → w.heap.size ≤ a.block) → Calls Tryz.prog 35 #[.pointer (some ⟨s, 0, none⟩), .slice A' lr c'] X fun e w' => e = .returned (.int .i64 (Z.saveC D row : Int)) ∧ (∃ F' S', Lz M C N w' g s (Z.saveD D row) (Z.save D row) F' S' ∧ (∀ b, Or2 F' S' b → Or2 F S b ∨ w.heap.size ≤ b) ∧ Mv N (Or2 F S) w w') ∧ (∀ b, ¬ Or2 F S b → b < X.heap.size → w'.heap[b]? = X.heap[b]?) := fun X A' lr c' hX hR hA => by
  have tX := t.grow hX
  refine (tX.save (hk X hX) hR (fun a h0 ha hO => by have := hA a ha; have := (t.lt _ hO).2; omega) hc).mono ?_
  rintro e w' ⟨h1, F', S', h2, h3, h4⟩
  exact ⟨h1, ⟨F', S', h2, fun b hb => (h3 b hb).imp id fun e => Nat.le_trans hX.size e, (Mv.of hN hX).trans h4 fun b hb => .inl hb⟩, fun b h5 h6 => h4.same b h6 h5⟩
end
end
/-- The counter's own cells are those of another one. -/
theorem Ki.st6 {N : Nat} {w : World} {cc s : Nat} {x : Cn} {h : List UInt8} {K : Nat → Prop} (r : Ki N w cc s x h K) (y : Cn) {A : Option Addr} {n c : Nat} (hn : n = h.length) (hb : Bk w cc 95 #[.int .u64 (x.tot : Int), .int .u64 (x.bat : Int), .int .u64 (x.res : Int), .int .u64 (x.nxt : Int), .bool x.gone, .slice A n c, .pointer (some ⟨s, 0, none⟩)]) : Ki N (st6 w cc y A n c) cc s y h K := by
  subst hn
  refine r.set (by simp) (fun b hb' _ => st6_far w cc y A _ c b hb') fun A' c' hb' => ?_
  have e := (hb'.cell 5).symm.trans (hb.cell 5)
  simp only [List.getElem?_toArray, List.getElem?_cons_zero, List.getElem?_cons_succ, Option.some.injEq, Value.slice.injEq] at e
  obtain ⟨rfl, _, rfl⟩ := e
  exact (((((hb.put 0 _).put 1 _).put 2 _).put 3 _).put 4 _).put 5 _
/-- Nothing is saved where the counter is what it was. -/
theorem lbecome_same (N : Nat) (w : World) (cc s : Nat) (x : Cn) (h : List UInt8) (R : Nat → Prop) (r : Ki N w cc s x h R) : Calls Tryz.prog 41 #[.pointer (some ⟨cc, 0, none⟩), .agg x.cells] w fun e w' => e = .returned (.int .i64 0) ∧ Below w.heap.size w w' := by
  obtain ⟨A, c, hb, hr, hi⟩ := r.ex
  have EQ := fun W => run_eql_Cn x x W
  simp only [decide_true] at EQ
  obtain ⟨x0, x1, x2, x3, x4⟩ := x
  unfold Cn.cells at EQ ⊢
  simp only at EQ hb ⊢
  obtain ⟨g0, hg0⟩ : ∃ g, w.heap.size = g := ⟨_, rfl⟩
  obtain ⟨w0, hw0⟩ : ∃ w0, w.alloc (.cells #[.int .u64 (x0 : Int), .int .u64 (x1 : Int), .int .u64 (x2 : Int), .int .u64 (x3 : Int), .bool x4] 46) = w0 := ⟨_, rfl⟩
  have K0 := Lib.hid (show Bk w0 g0 46 #[.int .u64 (x0 : Int), .int .u64 (x1 : Int), .int .u64 (x2 : Int), .int .u64 (x3 : Int), .bool x4] by rw [← hw0]; exact Bk.newAt _ _ _ _ hg0)
  have B0 := Lib.hid (show Below w.heap.size w w0 by rw [← hw0]; exact (Below.refl _ _).alloc (Nat.le_refl _) _)
  have C0 := Lib.hid (hb.below B0.out hb.lt)
  have HG := Lib.hid hg0
  have HW0 := Lib.hid hw0
  have SD := Lib.hid (show w0.drew.cell? ⟨g0, 0, none⟩ = some (.int .u64 (x0 : Int)) ∧ w0.drew.cell? ⟨g0, 1, none⟩ = some (.int .u64 (x1 : Int)) ∧ w0.drew.cell? ⟨g0, 2, none⟩ = some (.int .u64 (x2 : Int)) ∧ w0.drew.cell? ⟨g0, 3, none⟩ = some (.int .u64 (x3 : Int)) ∧ w0.drew.cell? ⟨g0, 4, none⟩ = some (.bool x4) ∧ w0.drew.cell? ⟨cc, 0, none⟩ = some (.int .u64 (x0 : Int)) ∧ w0.drew.cell? ⟨cc, 1, none⟩ = some (.int .u64 (x1 : Int)) ∧ w0.drew.cell? ⟨cc, 2, none⟩ = some (.int .u64 (x2 : Int)) ∧ w0.drew.cell? ⟨cc, 3, none⟩ = some (.int .u64 (x3 : Int)) ∧ w0.drew.cell? ⟨cc, 4, none⟩ = some (.bool x4) from ⟨K0.out.drew.cell 0, K0.out.drew.cell 1, K0.out.drew.cell 2, K0.out.drew.cell 3, K0.out.drew.cell 4, C0.out.drew.cell 0, C0.out.drew.cell 1, C0.out.drew.cell 2, C0.out.drew.cell 3, C0.out.drew.cell 4⟩)
  clear r hb hr hi hg0 hw0
  go_enter Tryz.func41, Tryz.ntmps41
  go_upto_region 1 with (fail)
  rw [HW0.out, HG.out]
  (go_region_held3 (fun X => X.cell? ⟨g0, 0, none⟩ = some (.int .u64 (x0 : Int)) ∧ X.cell? ⟨g0, 1, none⟩ = some (.int .u64 (x1 : Int)) ∧ X.cell? ⟨g0, 2, none⟩ = some (.int .u64 (x2 : Int)) ∧ X.cell? ⟨g0, 3, none⟩ = some (.int .u64 (x3 : Int)) ∧ X.cell? ⟨g0, 4, none⟩ = some (.bool x4) ∧ X.cell? ⟨cc, 0, none⟩ = some (.int .u64 (x0 : Int)) ∧ X.cell? ⟨cc, 1, none⟩ = some (.int .u64 (x1 : Int)) ∧ X.cell? ⟨cc, 2, none⟩ = some (.int .u64 (x2 : Int)) ∧ X.cell? ⟨cc, 3, none⟩ = some (.int .u64 (x3 : Int)) ∧ X.cell? ⟨cc, 4, none⟩ = some (.bool x4)) (with_reducible exact SD.out) (fail))
  go_wp2_with (fail)
  go_ret
  exact ⟨rfl, B0.out.drew⟩
set_option maxHeartbeats 16000000 in
/-- It becomes another one, if that one is saved. -/
theorem lbecome_save (M : DC) (C : SlC M) (N : Nat) (w : World) (cc g s : Nat) (x y : Cn) (h : List UInt8) (D : Dk) (Z : Sl) (F S R : Nat → Prop) (hk : ∀ X, Below w.heap.size w X → C.ok X) (t : Lz M C N w g s D Z F S) (r : Ki N w cc s x h R) (ap : ∀ b, R b → ¬ Or2 F S b) (hy : y.Fit) (hne : y ≠ x) (hc : D.cnt < 1099511627000) :
    Calls Tryz.prog 41 #[.pointer (some ⟨cc, 0, none⟩), .agg y.cells] w fun e w' => ∃ F' S', e = .returned (.int .i64 (Z.saveC D (y.row h) : Int)) ∧ Lz M C N w' g s (Z.saveD D (y.row h)) (Z.save D (y.row h)) F' S' ∧ Ki N w' cc s (if Z.saveC D (y.row h) = 0 then y else x) h R ∧ (∀ b, R b → ¬ Or2 F' S' b) ∧ (∀ b, Or2 F' S' b → Or2 F S b ∨ w.heap.size ≤ b) ∧ Mv N (Or3 F S R) w w' := by
  have hN : N ≤ w.heap.size := Nat.le_trans (r.lt cc r.at_).1 (Nat.le_of_lt (r.lt cc r.at_).2)
  obtain ⟨A, c, hb, hr, hi⟩ := r.ex
  obtain ⟨n, hn⟩ : ∃ n, n = h.length := ⟨_, rfl⟩
  rw [← hn] at hb hr
  have EQ := fun W => run_eql_Cn y x W
  simp only [decide_eq_false hne] at EQ
  obtain ⟨row, hrow⟩ : ∃ v, v = y.row h := ⟨_, rfl⟩
  rw [← hrow]
  have CS := Lib.hid (lsave_call (row := row) t hN hk hc)
  obtain ⟨sc, hsc⟩ : ∃ v, v = Z.saveC D row := ⟨_, rfl⟩
  obtain ⟨DS, hDS⟩ : ∃ v, v = Z.saveD D row := ⟨_, rfl⟩
  obtain ⟨ZS, hZS⟩ : ∃ v, v = Z.save D row := ⟨_, rfl⟩
  rw [← hsc, ← hDS, ← hZS] at CS ⊢
  have HF := Lib.hid (show n ≤ 100000 by rw [hn]; exact r.few)
  have BY := Lib.hid (show ∀ X, Below w.heap.size w X → Calls Tryz.prog 36 #[.agg (ncA y A n c)] X (New X.heap.size X row) from fun X hX => by rw [hrow]; exact lbytes_any y hy A n c h X (hr.below hX) HF.out)
  have HT := Lib.hid (show Lz M C N w g s D Z F S ∧ Ki N w cc s x h R ∧ (∀ b, R b → ¬ Or2 F S b) ∧ N ≤ w.heap.size from ⟨t, r, ap, hN⟩)
  have HNH := Lib.hid hn
  obtain ⟨y0, y1, y2, y3, y4⟩ := y
  have XC := Lib.hid (show x.cells = x.cells from rfl)
  obtain ⟨x0, x1, x2, x3, x4⟩ := x
  unfold Cn.cells at EQ ⊢
  simp only at EQ hb ⊢
  replace BY := Lib.hid (show ∀ X, Below w.heap.size w X → Calls Tryz.prog 36 #[.agg #[.int .u64 (y0 : Int), .int .u64 (y1 : Int), .int .u64 (y2 : Int), .int .u64 (y3 : Int), .bool y4, .slice A n c]] X (New X.heap.size X row) from BY.out)
  obtain ⟨g0, hg0⟩ : ∃ g, w.heap.size = g := ⟨_, rfl⟩
  obtain ⟨w0, hw0⟩ : ∃ w0, w.alloc (.cells #[.int .u64 (y0 : Int), .int .u64 (y1 : Int), .int .u64 (y2 : Int), .int .u64 (y3 : Int), .bool y4] 46) = w0 := ⟨_, rfl⟩
  have K0 := Lib.hid (show Bk w0 g0 46 #[.int .u64 (y0 : Int), .int .u64 (y1 : Int), .int .u64 (y2 : Int), .int .u64 (y3 : Int), .bool y4] by rw [← hw0]; exact Bk.newAt _ _ _ _ hg0)
  have B0 := Lib.hid (show Below w.heap.size w w0 by rw [← hw0]; exact (Below.refl _ _).alloc (Nat.le_refl _) _)
  have C0 := Lib.hid (hb.below B0.out hb.lt)
  have HG := Lib.hid hg0
  have HW0 := Lib.hid hw0
  have SD := Lib.hid (show w0.drew.cell? ⟨g0, 0, none⟩ = some (.int .u64 (y0 : Int)) ∧ w0.drew.cell? ⟨g0, 1, none⟩ = some (.int .u64 (y1 : Int)) ∧ w0.drew.cell? ⟨g0, 2, none⟩ = some (.int .u64 (y2 : Int)) ∧ w0.drew.cell? ⟨g0, 3, none⟩ = some (.int .u64 (y3 : Int)) ∧ w0.drew.cell? ⟨g0, 4, none⟩ = some (.bool y4) ∧ w0.drew.cell? ⟨cc, 0, none⟩ = some (.int .u64 (x0 : Int)) ∧ w0.drew.cell? ⟨cc, 1, none⟩ = some (.int .u64 (x1 : Int)) ∧ w0.drew.cell? ⟨cc, 2, none⟩ = some (.int .u64 (x2 : Int)) ∧ w0.drew.cell? ⟨cc, 3, none⟩ = some (.int .u64 (x3 : Int)) ∧ w0.drew.cell? ⟨cc, 4, none⟩ = some (.bool x4) from ⟨K0.out.drew.cell 0, K0.out.drew.cell 1, K0.out.drew.cell 2, K0.out.drew.cell 3, K0.out.drew.cell 4, C0.out.drew.cell 0, C0.out.drew.cell 1, C0.out.drew.cell 2, C0.out.drew.cell 3, C0.out.drew.cell 4⟩)
  clear r hb hr hi hg0 hw0 t ap hn hrow hsc hDS hZS hk hc hy hne
  go_enter Tryz.func41, Tryz.ntmps41
  go_upto_region 1 with (fail)
  rw [HW0.out, HG.out]
  (go_region_held3 (fun X => X.cell? ⟨g0, 0, none⟩ = some (.int .u64 (y0 : Int)) ∧ X.cell? ⟨g0, 1, none⟩ = some (.int .u64 (y1 : Int)) ∧ X.cell? ⟨g0, 2, none⟩ = some (.int .u64 (y2 : Int)) ∧ X.cell? ⟨g0, 3, none⟩ = some (.int .u64 (y3 : Int)) ∧ X.cell? ⟨g0, 4, none⟩ = some (.bool y4) ∧ X.cell? ⟨cc, 0, none⟩ = some (.int .u64 (x0 : Int)) ∧ X.cell? ⟨cc, 1, none⟩ = some (.int .u64 (x1 : Int)) ∧ X.cell? ⟨cc, 2, none⟩ = some (.int .u64 (x2 : Int)) ∧ X.cell? ⟨cc, 3, none⟩ = some (.int .u64 (x3 : Int)) ∧ X.cell? ⟨cc, 4, none⟩ = some (.bool x4)) (with_reducible exact SD.out) (fail))
  go_upto_region 3 with (fail)
  obtain ⟨w3, hw3⟩ : ∃ w3, w0.drew = w3 := ⟨_, rfl⟩
  have K3 := Lib.hid (show Bk w3 g0 46 #[.int .u64 (y0 : Int), .int .u64 (y1 : Int), .int .u64 (y2 : Int), .int .u64 (y3 : Int), .bool y4] by rw [← hw3]; exact K0.out.drew)
  have C3 := Lib.hid (show Bk w3 cc 95 #[.int .u64 (x0 : Int), .int .u64 (x1 : Int), .int .u64 (x2 : Int), .int .u64 (x3 : Int), .bool x4, .slice A n c, .pointer (some ⟨s, 0, none⟩)] by rw [← hw3]; exact C0.out.drew)
  have B3 := Lib.hid (show Below w.heap.size w w3 by rw [← hw3]; exact B0.out.drew)
  rw [hw3]
  clear hw3 SD K0 C0 B0 EQ
  obtain ⟨pa, hpa⟩ : ∃ pa, w3.heap.size = pa := ⟨_, rfl⟩
  have PA := Lib.hid hpa
  clear hpa
  have GDA := Lib.hid (fun o => (show Below w3.heap.size w3 (w3.alloc o).drew from ((Below.refl _ _).alloc (Nat.le_refl _) o).drew))
  have GD3 := Lib.hid (Below.refl w3.heap.size w3).drew
  have KX := Lib.hid (show ∀ X, Below w3.heap.size w3 X → X.cell? ⟨g0, 0, none⟩ = some (.int .u64 (y0 : Int)) ∧ X.cell? ⟨g0, 1, none⟩ = some (.int .u64 (y1 : Int)) ∧ X.cell? ⟨g0, 2, none⟩ = some (.int .u64 (y2 : Int)) ∧ X.cell? ⟨g0, 3, none⟩ = some (.int .u64 (y3 : Int)) ∧ X.cell? ⟨g0, 4, none⟩ = some (.bool y4) ∧ X.cell? ⟨cc, 5, none⟩ = some (.slice A n c) from fun X hX => by
    have q := K3.out.below hX K3.out.lt
    exact ⟨q.cell 0, q.cell 1, q.cell 2, q.cell 3, q.cell 4, (C3.out.below hX C3.out.lt).cell 5⟩)
  (go_region_held3 (fun X => X.cell? ⟨g0, 0, none⟩ = some (.int .u64 (y0 : Int)) ∧ X.cell? ⟨g0, 1, none⟩ = some (.int .u64 (y1 : Int)) ∧ X.cell? ⟨g0, 2, none⟩ = some (.int .u64 (y2 : Int)) ∧ X.cell? ⟨g0, 3, none⟩ = some (.int .u64 (y3 : Int)) ∧ X.cell? ⟨g0, 4, none⟩ = some (.bool y4) ∧ X.cell? ⟨cc, 5, none⟩ = some (.slice A n c)) (first
    | exact KX.out _ (GDA.out _)
    | exact KX.out _ GD3.out) (fail))
  have K4 := Lib.hid (show Bk (w3.alloc (.cells #[.int .u64 (y0 : Int), .int .u64 (y1 : Int), .int .u64 (y2 : Int), .int .u64 (y3 : Int), .bool y4, .slice A n c] 90)).drew pa 90 #[.int .u64 (y0 : Int), .int .u64 (y1 : Int), .int .u64 (y2 : Int), .int .u64 (y3 : Int), .bool y4, .slice A n c] from (Bk.newAt w3 _ _ _ PA.out).drew)
  have B4 := Lib.hid (GDA.out (.cells #[.int .u64 (y0 : Int), .int .u64 (y1 : Int), .int .u64 (y2 : Int), .int .u64 (y3 : Int), .bool y4, .slice A n c] 90))
  obtain ⟨w4, hw4⟩ : ∃ w4, (w3.alloc (.cells #[.int .u64 (y0 : Int), .int .u64 (y1 : Int), .int .u64 (y2 : Int), .int .u64 (y3 : Int), .bool y4, .slice A n c] 90)).drew = w4 := ⟨_, rfl⟩
  rw [hw4] at K4 B4
  rw [hw4, PA.out]
  clear hw4
  have C4 := Lib.hid (C3.out.below B4.out C3.out.lt)
  have BW4 := Lib.hid (B3.out.trans (B4.out.mono B3.out.size))
  have NF := Lib.hid (show ¬ Or2 F S cc ∧ ¬ Or2 F S pa ∧ cc < w4.heap.size ∧ pa < w4.heap.size from ⟨HT.out.2.2.1 cc HT.out.2.1.at_, fun e => by have := (HT.out.1.lt pa e).2; have := B3.out.size; have := PA.out; omega, C4.out.lt, K4.out.lt⟩)
  clear KX GDA GD3 K3 C3 B4
  have KY := Lib.hid (show ∀ X : World, X.heap[cc]? = w4.heap[cc]? → X.heap[pa]? = w4.heap[pa]? → X.cell? ⟨cc, 6, none⟩ = some (.pointer (some ⟨s, 0, none⟩)) ∧ X.cell? ⟨pa, 0, none⟩ = some (.int .u64 (y0 : Int)) ∧ X.cell? ⟨pa, 1, none⟩ = some (.int .u64 (y1 : Int)) ∧ X.cell? ⟨pa, 2, none⟩ = some (.int .u64 (y2 : Int)) ∧ X.cell? ⟨pa, 3, none⟩ = some (.int .u64 (y3 : Int)) ∧ X.cell? ⟨pa, 4, none⟩ = some (.bool y4) ∧ X.cell? ⟨pa, 5, none⟩ = some (.slice A n c) from fun X h1 h2 => by
    have q1 : Bk X cc _ _ := h1.trans C4.out
    have q2 : Bk X pa _ _ := h2.trans K4.out
    exact ⟨q1.cell 6, q2.cell 0, q2.cell 1, q2.cell 2, q2.cell 3, q2.cell 4, q2.cell 5⟩)
  have GD4 := Lib.hid (Below.refl w4.heap.size w4).drew
  go_upto_region 4 with (fail)
  (go_region_held3 (fun X => X.cell? ⟨cc, 6, none⟩ = some (.pointer (some ⟨s, 0, none⟩)) ∧ X.cell? ⟨pa, 0, none⟩ = some (.int .u64 (y0 : Int)) ∧ X.cell? ⟨pa, 1, none⟩ = some (.int .u64 (y1 : Int)) ∧ X.cell? ⟨pa, 2, none⟩ = some (.int .u64 (y2 : Int)) ∧ X.cell? ⟨pa, 3, none⟩ = some (.int .u64 (y3 : Int)) ∧ X.cell? ⟨pa, 4, none⟩ = some (.bool y4) ∧ X.cell? ⟨pa, 5, none⟩ = some (.slice A n c)) (first
    | exact KY.out _ E6.out.1 E6.out.2
    | exact KY.out _ (B5.out.block cc NF.out.2.2.1) (B5.out.block pa NF.out.2.2.2)
    | exact KY.out _ (GD4.out.block cc NF.out.2.2.1) (GD4.out.block pa NF.out.2.2.2)) (first
    | (go_at_call 36; ((with_reducible refine (BY.out w4.drew BW4.out.drew).mono ?_); rintro e w5 ⟨A5, n5, c5, rfl, o5, b5⟩; have R5 := Lib.hid (Rd.own o5); have B5 := Lib.hid (GD4.out.trans (b5.mono GD4.out.size)); have F5 := Lib.hid (show ∀ a, A5 = some a → w.heap.size ≤ a.block from fun a ha => Nat.le_trans BW4.out.size (o5.lt a.block (by rw [ha]; rfl)).1); clear o5 b5))
    | (go_at_call 35; ((with_reducible refine (CS.out w5 A5 n5 c5 (BW4.out.trans (B5.out.mono BW4.out.size)) R5.out F5.out).mono ?_); rintro e w6 ⟨rfl, ⟨F6, S6, l6, s6, m6⟩, k6⟩; have L6 := Lib.hid l6; have U6 := Lib.hid s6; have M6 := Lib.hid m6; have E6 := Lib.hid (show w6.heap[cc]? = w4.heap[cc]? ∧ w6.heap[pa]? = w4.heap[pa]? from ⟨(k6 cc NF.out.1 (Nat.lt_of_lt_of_le NF.out.2.2.1 B5.out.size)).trans (B5.out.block cc NF.out.2.2.1), (k6 pa NF.out.2.1 (Nat.lt_of_lt_of_le NF.out.2.2.2 B5.out.size)).trans (B5.out.block pa NF.out.2.2.2)⟩); clear l6 s6 m6 k6))
    | fail))
  have R6 := Lib.hid (HT.out.2.1.under HT.out.1 HT.out.2.2.1 M6.out)
  have AP6 := Lib.hid (ap_under HT.out.2.1 HT.out.2.2.1 U6.out)
  have MM := Lib.hid (show Mv N (Or3 F S R) w w6 from M6.out.mono fun b hb => hb.elim .inl fun e => .inr (.inl e))
  by_cases hz : sc = 0
  · subst hz
    have C6 := Lib.hid (show Bk w6 cc 95 #[.int .u64 (x0 : Int), .int .u64 (x1 : Int), .int .u64 (x2 : Int), .int .u64 (x3 : Int), .bool x4, .slice A n c, .pointer (some ⟨s, 0, none⟩)] from E6.out.1.trans C4.out)
    obtain ⟨_, k0, k1, k2, k3, k4, k5⟩ := KY.out w6 E6.out.1 E6.out.2
    have j0 := C6.out.cell 0
    have j1 := C6.out.cell 1
    have j2 := C6.out.cell 2
    have j3 := C6.out.cell 3
    have j4 := C6.out.cell 4
    have j5 := C6.out.cell 5
    have f0 := C6.out.frozen 0
    have f1 := C6.out.frozen 1
    have f2 := C6.out.frozen 2
    have f3 := C6.out.frozen 3
    have f4 := C6.out.frozen 4
    have f5 := C6.out.frozen 5
    simp only [List.getElem?_toArray, List.getElem?_cons_zero, List.getElem?_cons_succ] at j0 j1 j2 j3 j4 j5
    go_wp2_with (fail)
    go_ret
    have MS := st6_mv (N := N) (HT.out.2.1.lt cc HT.out.2.1.at_).1 w6 ⟨y0, y1, y2, y3, y4⟩ A n c
    refine ⟨rfl, F6, S6, Lz.poked L6.out R6.out AP6.out MS, ?_, (by first | exact AP6.out | exact fun b hb => not_or.1 (AP6.out b hb)), U6.out, MM.out.trans MS fun b hb => .inl (.inr (.inr (by have e : b = cc := hb; rw [e]; exact HT.out.2.1.at_)))⟩
    first | exact R6.out.st6 ⟨y0, y1, y2, y3, y4⟩ HNH.out C6.out | (rw [if_pos rfl]; exact R6.out.st6 ⟨y0, y1, y2, y3, y4⟩ HNH.out C6.out)
  · have q : ((sc : Int) != 0) = true := by simpa using hz
    have HZ := Lib.hid hz
    clear hz
    go_wp2_with (fail)
    go_ret
    exact ⟨rfl, F6, S6, L6.out, by first | exact R6.out | (rw [if_neg HZ.out]; exact R6.out), (by first | exact AP6.out | exact fun b hb => not_or.1 (AP6.out b hb)), U6.out, MM.out⟩
end Go.Proofs.YtnoflgkjdibblaaGreatDoor.S21
