/-
  Texts put together: ReC. No statement is proved here.
-/
import Derived.Test.YtnoflgkjdibblaaDoorWa16

/-
  The landed counter's parts, out of bytes. No statement is proved here.
-/
namespace Go.Proofs.YtnoflgkjdibblaaDoor.S21
set_option linter.unusedSimpArgs false
set_option linter.unusedVariables false
set_option maxRecDepth 8192
open Go.RowKit S19 S20

theorem cutF_step (ps : List (List UInt8)) (b : List UInt8) (k : Nat) (ns : List Int) (h : k ≤ b.length) : CT.cutF ps b ((k : Int) :: ns) = CT.cutF (ps ++ [b.take k]) (b.drop k) ns := by
  rw [CT.cutF, if_neg (by omega), if_neg (by omega), Int.toNat_natCast]
theorem cut_parts (b : List UInt8) (n m : Nat) (hl : b.length = n) (h25 : 25 ≤ n) (hm : m = n - 25) : CT.cutL b [8, 8, 8, 1, (m : Int)] = ([b.take 8, (b.drop 8).take 8, (b.drop 16).take 8, (b.drop 24).take 1, b.drop 25], 0) := by
  show CT.cutF [] b [((8 : Nat) : Int), ((8 : Nat) : Int), ((8 : Nat) : Int), ((1 : Nat) : Int), (m : Int)] = _
  have e : (b.drop 25).take m = b.drop 25 := List.take_of_length_le (by simp; omega)
  have z : ((b.drop 25).drop m).length = 0 := by simp; omega
  rw [cutF_step, cutF_step, cutF_step, cutF_step, cutF_step, CT.cutF]
  · simp only [List.drop_drop, List.nil_append, List.cons_append, Nat.reduceAdd] at z ⊢
    rw [z, if_neg (by omega), e]
  all_goals (first | omega | (simp only [List.length_drop, List.drop_drop]; omega))
theorem rdI5 (w : World) (g : Nat) (hg : w.heap.size = g) (T : TypeId) (m : Nat) (hm : m ≤ 100000) : CT.RdI (w.alloc (.cells #[.int .i64 8, .int .i64 8, .int .i64 8, .int .i64 1, .int .i64 (m : Int)] T)) (some ⟨g, 0, none⟩) 5 5 [8, 8, 8, 1, (m : Int)] := by
  subst hg
  refine ⟨rfl, Nat.le_refl _, by simp [maxLen], ?_, fun _ => ⟨w.heap.size, 0, rfl, by simp, fun j hj => ?_⟩⟩
  · intro x hx
    simp only [List.mem_cons, List.not_mem_nil, or_false] at hx
    unfold maxLen
    omega
  · rw [Nat.zero_add, (Bk.new w T _).cell j]
    match j, hj with
    | 0, _ => rfl
    | 1, _ => rfl
    | 2, _ => rfl
    | 3, _ => rfl
    | 4, _ => rfl
theorem own_blk' {w : World} {B e n : Nat} {A : Option Addr} {c : Nat} {xs : List Value} (h : w.ownsRow B e 1 (.slice A n c) n xs) (hn : 0 < n) : ∃ g, A = some ⟨g, 0, none⟩ ∧ B ≤ g ∧ g < w.heap.size := by
  have hl := h.lt
  rcases h.2 with ⟨h1, hn'⟩ | ⟨g, cap, cur, h1, hB, hh, _⟩
  · omega
  · injection h1 with h1 h2 h3
    exact ⟨g, h1, hB, (Array.getElem?_eq_some_iff.1 hh).1⟩
/-- The five parts in memory. -/
structure Pts (N : Nat) (b : List UInt8) (m g : Nat) (A0 : Option Addr) (c0 : Nat) (A1 : Option Addr) (c1 : Nat) (A2 : Option Addr) (c2 : Nat) (b3 c3 : Nat) (A4 : Option Addr) (c4 : Nat) (X : World) : Prop where
  k0 : X.cell? ⟨g, 0, none⟩ = some (.slice A0 8 c0)
  k1 : X.cell? ⟨g, 1, none⟩ = some (.slice A1 8 c1)
  k2 : X.cell? ⟨g, 2, none⟩ = some (.slice A2 8 c2)
  k3 : X.cell? ⟨g, 3, none⟩ = some (.slice (some ⟨b3, 0, none⟩) 1 c3)
  k4 : X.cell? ⟨g, 4, none⟩ = some (.slice A4 m c4)
  k5 : X.cell? ⟨b3, 0, none⟩ = some (.int .u8 ((b.getD 24 0).toNat : Int))
  lg : g < X.heap.size
  lb : b3 < X.heap.size
  ng : N ≤ g
  nb : N ≤ b3
  r0 : Rd X A0 8 c0 (b.take 8)
  r1 : Rd X A1 8 c1 ((b.drop 8).take 8)
  r2 : Rd X A2 8 c2 ((b.drop 16).take 8)
  r4 : Rd X A4 m c4 (b.drop 25)
  far : ∀ a, 0 < m → A4 = some a → N ≤ a.block
theorem Pts.below {N : Nat} {b : List UInt8} {m g c0 c1 c2 b3 c3 c4 : Nat} {A0 A1 A2 A4 : Option Addr} {X Y : World} (t : Pts N b m g A0 c0 A1 c1 A2 c2 b3 c3 A4 c4 X) (hb : Below X.heap.size X Y) : Pts N b m g A0 c0 A1 c1 A2 c2 b3 c3 A4 c4 Y :=
  ⟨(hb.cell (p := ⟨g, 0, none⟩) t.lg).trans t.k0, (hb.cell (p := ⟨g, 1, none⟩) t.lg).trans t.k1, (hb.cell (p := ⟨g, 2, none⟩) t.lg).trans t.k2, (hb.cell (p := ⟨g, 3, none⟩) t.lg).trans t.k3, (hb.cell (p := ⟨g, 4, none⟩) t.lg).trans t.k4, (hb.cell (p := ⟨b3, 0, none⟩) t.lb).trans t.k5, Nat.lt_of_lt_of_le t.lg hb.size, Nat.lt_of_lt_of_le t.lb hb.size, t.ng, t.nb, t.r0.below hb, t.r1.below hb, t.r2.below hb, t.r4.below hb, t.far⟩
theorem getD_one (b : List UInt8) (h : 24 < b.length) : ((b.drop 24).take 1)[0]? = some (b.getD 24 0) := by
  rw [List.getElem?_take, if_pos (by omega), List.getElem?_drop, List.getD_eq_getElem?_getD, List.getElem?_eq_getElem (by omega)]
  rfl
theorem cut_pts {w w' : World} {e : Ending} {b : List UInt8} {n m : Nat} (hl : b.length = n) (h25 : 25 ≤ n) (hm : m = n - 25) (h : CT.CutEnd w ([b.take 8, (b.drop 8).take 8, (b.drop 16).take 8, (b.drop 24).take 1, b.drop 25], 0) e w') :
    ∃ g cg A0 c0 A1 c1 A2 c2 b3 c3 A4 c4, e = .returned (.tuple #[.slice (some ⟨g, 0, none⟩) 5 cg, .int .i64 0]) ∧ Pts w.heap.size b m g A0 c0 A1 c1 A2 c2 b3 c3 A4 c4 w' ∧ Below w.heap.size w w' := by
  obtain ⟨A, l, c, vs, rfl, ho, hv, hb⟩ := h
  have hvl : vs.length = 5 := hv.len
  obtain rfl : l = 5 := by have := ho.1; simp at this; omega
  obtain ⟨g, rfl, hg1, hg2⟩ := own_blk' ho (by omega)
  obtain ⟨A0, n0, c0, e0, o0⟩ := hv.at_ 0 (by simp)
  obtain ⟨A1, n1, c1, e1, o1⟩ := hv.at_ 1 (by simp)
  obtain ⟨A2, n2, c2, e2, o2⟩ := hv.at_ 2 (by simp)
  obtain ⟨A3, n3, c3, e3, o3⟩ := hv.at_ 3 (by simp)
  obtain ⟨A4, n4, c4, e4, o4⟩ := hv.at_ 4 (by simp)
  have f0 := ho.cellAt 0 (by omega)
  have f1 := ho.cellAt 1 (by omega)
  have f2 := ho.cellAt 2 (by omega)
  have f3 := ho.cellAt 3 (by omega)
  have f4 := ho.cellAt 4 (by omega)
  rw [e0] at f0
  rw [e1] at f1
  rw [e2] at f2
  rw [e3] at f3
  rw [e4] at f4
  simp only [List.getElem?_cons_zero, List.getElem?_cons_succ, Option.getD_some] at o0 o1 o2 o3 o4
  obtain rfl : 8 = n0 := by rw [← own_len o0]; simp; omega
  obtain rfl : 8 = n1 := by rw [← own_len o1]; simp; omega
  obtain rfl : 8 = n2 := by rw [← own_len o2]; simp; omega
  obtain rfl : 1 = n3 := by rw [← own_len o3]; simp; omega
  obtain rfl : m = n4 := by rw [← own_len o4]; simp; omega
  obtain ⟨b3, rfl, hb1, hb2⟩ := own_blk' o3 (by omega)
  have f5 := o3.cellAt 0 (by omega)
  rw [show (bv ((b.drop 24).take 1))[0]? = some (.int .u8 ((b.getD 24 0).toNat : Int)) by rw [bv, List.getElem?_map, getD_one b (by omega)]; rfl] at f5
  refine ⟨g, c, A0, c0, A1, c1, A2, c2, b3, c3, A4, c4, rfl, ⟨f0, f1, f2, f3, f4, f5, hg2, hb2, by omega, hb1, Rd.own o0, Rd.own o1, Rd.own o2, Rd.own o4, fun a h0 ha => ?_⟩, hb⟩
  obtain ⟨b4, hb4, hb5, _⟩ := own_blk' o4 h0
  rw [hb4] at ha
  injection ha with ha
  rw [← ha]
  exact hb5
theorem byte_one (u : UInt8) : ((u.toNat : Int) == 1) = decide (u = 1) := by
  by_cases h : u = 1
  · subst h; rfl
  · rw [decide_eq_false h]
    have : u.toNat ≠ 1 := fun e => h (UInt8.toNat_inj.1 e)
    rw [beq_eq_false_iff_ne]
    omega
theorem drew_heap (w : World) : w.drew.heap = w.heap := rfl
theorem Tryd.infoNc : (Tryd.prog.info? 57).map (·.size) = some 6 := by kernel_rfl
set_option maxHeartbeats 8000000 in
theorem lparts_any (A : Option Addr) (n c : Nat) (b : List UInt8) (w : World) (hr : Rd w A n c b) (h25 : 25 ≤ n) (hn : n ≤ 100000) : Calls Tryd.prog 27 #[.slice A n c] w fun e w' => ∃ A' c', e = .returned (.agg (ncA (Cn.ofB b) A' (n - 25) c')) ∧ Rd w' A' (n - 25) c' (b.drop 25) ∧ (∀ a, 0 < n - 25 → A' = some a → w.heap.size ≤ a.block) ∧ Below w.heap.size w w' := by
  have hl := hr.len
  obtain ⟨m, hm⟩ : ∃ m, m = n - 25 := ⟨_, rfl⟩
  obtain ⟨v0, hv0⟩ : ∃ v, v = getL (b.take 8) := ⟨_, rfl⟩
  obtain ⟨v1, hv1⟩ : ∃ v, v = getL ((b.drop 8).take 8) := ⟨_, rfl⟩
  obtain ⟨v2, hv2⟩ : ∃ v, v = getL ((b.drop 16).take 8) := ⟨_, rfl⟩
  obtain ⟨u, hu⟩ : ∃ v, v = ((b.getD 24 0).toNat : Int) := ⟨_, rfl⟩
  obtain ⟨fl, hfl⟩ : ∃ v, v = decide (b.getD 24 0 = 1) := ⟨_, rfl⟩
  have hu1 : (u == 1) = fl := by rw [hu, hfl]; exact byte_one _
  have EQ := Lib.hid (show Cn.ofB b = ⟨v0, v1, v2, v2, fl⟩ by rw [hv0, hv1, hv2, hfl]; rfl)
  rw [EQ.out, ← hm]
  have HR := Lib.hid hr
  have CUT := Lib.hid (show ∀ X g1 T, X.heap.size = g1 → Below w.heap.size w X → Calls Tryd.prog 42 #[.slice A n c, .slice (some ⟨g1, 0, none⟩) 5 5] (X.alloc (.cells #[.int .i64 8, .int .i64 8, .int .i64 8, .int .i64 1, .int .i64 (m : Int)] T)) fun e w' => ∃ g cg A0 c0 A1 c1 A2 c2 b3 c3 A4 c4, e = .returned (.tuple #[.slice (some ⟨g, 0, none⟩) 5 cg, .int .i64 0]) ∧ Pts (X.heap.size + 1) b m g A0 c0 A1 c1 A2 c2 b3 c3 A4 c4 w' ∧ Below X.heap.size X w' from fun X g1 T hg hX => by
    have hB : Below X.heap.size X (X.alloc (.cells #[.int .i64 8, .int .i64 8, .int .i64 8, .int .i64 1, .int .i64 (m : Int)] T)) := (Below.refl _ _).alloc (Nat.le_refl _) _
    have q := CT.cut_any A (some ⟨g1, 0, none⟩) n c 5 5 b [8, 8, 8, 1, (m : Int)] _ ((hr.below hX).below hB) (rdI5 X g1 hg T m (by omega)) (by omega) (by omega)
    rw [cut_parts b n m hl h25 hm] at q
    refine q.mono fun e w' h => ?_
    obtain ⟨g, cg, A0, c0, A1, c1, A2, c2, b3, c3, A4, c4, h1, h2, h3⟩ := cut_pts hl h25 hm h
    rw [World.size_alloc] at h2
    exact ⟨g, cg, A0, c0, A1, c1, A2, c2, b3, c3, A4, c4, h1, h2, hB.trans (h3.mono hB.size)⟩)
  have d1 : (n : Int) - 25 = (m : Int) := by omega
  have d2 : wrap64 ((n : Int) - 25) = (m : Int) := by rw [d1]; exact (wrap_nat m (by omega)).1
  have d3 : wrap64 (m : Int) = (m : Int) := (wrap_nat m (by omega)).1
  have TL := Lib.hid (show ∀ X A c xs v, Rd X A 8 c xs → v = getL xs → Calls Tryd.prog 43 #[.slice A 8 c] X fun e w' => e = .returned (.int .u64 (v : Int)) ∧ X = w' from fun X A c xs v h hv => by rw [hv]; exact ltold_any A 8 c xs X (by omega) h)
  have HV := Lib.hid (show v0 = getL (b.take 8) ∧ v1 = getL ((b.drop 8).take 8) ∧ v2 = getL ((b.drop 16).take 8) ∧ u = ((b.getD 24 0).toNat : Int) from ⟨hv0, hv1, hv2, hu⟩)
  obtain ⟨g0, hg0⟩ : ∃ g, w.heap.size = g := ⟨_, rfl⟩
  obtain ⟨w0, hw0⟩ : ∃ w0, w.alloc (.cells #[.int .u64 0, .int .u64 0, .int .u64 0, .int .u64 0, .bool false, .slice none 0 0] 57) = w0 := ⟨_, rfl⟩
  have K0 := Lib.hid (show Bk w0 g0 57 #[.int .u64 0, .int .u64 0, .int .u64 0, .int .u64 0, .bool false, .slice none 0 0] by rw [← hw0]; exact Bk.newAt _ _ _ _ hg0)
  have B0 := Lib.hid (show Below w.heap.size w w0 by rw [← hw0]; exact (Below.refl _ _).alloc (Nat.le_refl _) _)
  have HG := Lib.hid hg0
  have HW0 := Lib.hid hw0
  have HB := Lib.hid (show 25 ≤ n ∧ n ≤ 100000 from ⟨h25, hn⟩)
  clear hr hl hm hv0 hv1 hv2 hu hfl hg0 hw0 h25 hn
  go_enter Tryd.func27, Tryd.ntmps27
  go_upto_region 1 with (fail)
  rw [HW0.out, HG.out]
  go_upto_region 2 with (go_at_call 42; ((with_reducible refine (CUT.out w0 _ _ rfl B0.out).mono ?_); rintro e w1 ⟨g, cg, A0, c0, A1, c1, A2, c2, b3, c3, A4, c4, rfl, p1, b1⟩; have P1 := Lib.hid p1; have B1 := Lib.hid (B0.out.trans (b1.mono B0.out.size)); have K1 := Lib.hid (K0.out.below b1 K0.out.lt); clear p1 b1))
  clear d1 d2 d3
  obtain ⟨pa, hpa⟩ : ∃ pa, w1.heap.size = pa := ⟨_, rfl⟩
  have PA := Lib.hid hpa
  clear hpa
  have GD1 := Lib.hid (Below.refl w1.heap.size w1).drew
  have KX := Lib.hid (show ∀ X, Below w1.heap.size w1 X → X.cell? ⟨g, 0, none⟩ = some (.slice A0 8 c0) ∧ X.cell? ⟨g, 1, none⟩ = some (.slice A1 8 c1) ∧ X.cell? ⟨g, 2, none⟩ = some (.slice A2 8 c2) ∧ X.cell? ⟨g, 3, none⟩ = some (.slice (some ⟨b3, 0, none⟩) 1 c3) ∧ X.cell? ⟨b3, 0, none⟩ = some (.int .u8 u) from fun X hX => by
    have q := P1.out.below hX
    rw [HV.out.2.2.2]
    exact ⟨q.k0, q.k1, q.k2, q.k3, q.k5⟩)
  have T0 := (show ∀ X, Below w1.heap.size w1 X → Calls Tryd.prog 43 #[.slice A0 8 c0] X fun e w' => e = .returned (.int .u64 (v0 : Int)) ∧ X = w' from fun X hX => TL.out X A0 c0 _ v0 (P1.out.below hX).r0 HV.out.1)
  have T1 := (show ∀ X, Below w1.heap.size w1 X → Calls Tryd.prog 43 #[.slice A1 8 c1] X fun e w' => e = .returned (.int .u64 (v1 : Int)) ∧ X = w' from fun X hX => TL.out X A1 c1 _ v1 (P1.out.below hX).r1 HV.out.2.1)
  have T2 := (show ∀ X, Below w1.heap.size w1 X → Calls Tryd.prog 43 #[.slice A2 8 c2] X fun e w' => e = .returned (.int .u64 (v2 : Int)) ∧ X = w' from fun X hX => TL.out X A2 c2 _ v2 (P1.out.below hX).r2 HV.out.2.2.1)
  have GDA := Lib.hid (fun o => (show Below w1.heap.size w1 (w1.alloc o).drew from ((Below.refl _ _).alloc (Nat.le_refl _) o).drew))
  have T0a := Lib.hid (T0 _ GD1.out)
  have T0b := Lib.hid (fun o => T0 _ (GDA.out o))
  have T1a := Lib.hid (T1 _ GD1.out)
  have T1b := Lib.hid (fun o => T1 _ (GDA.out o))
  have T2a := Lib.hid (T2 _ GD1.out)
  have T2b := Lib.hid (fun o => T2 _ (GDA.out o))
  clear T0 T1 T2
  (go_region_held3 (fun X => X.cell? ⟨g, 0, none⟩ = some (.slice A0 8 c0) ∧ X.cell? ⟨g, 1, none⟩ = some (.slice A1 8 c1) ∧ X.cell? ⟨g, 2, none⟩ = some (.slice A2 8 c2) ∧ X.cell? ⟨g, 3, none⟩ = some (.slice (some ⟨b3, 0, none⟩) 1 c3) ∧ X.cell? ⟨b3, 0, none⟩ = some (.int .u8 u)) (first
    | exact KX.out _ (GDA.out _)
    | exact KX.out _ GD1.out) (first
    | (go_at_call 43; ((first | with_reducible refine T0a.out.mono ?_ | with_reducible refine (T0b.out _).mono ?_); rintro e wq ⟨rfl, rfl⟩))
    | (go_at_call 43; ((first | with_reducible refine T1a.out.mono ?_ | with_reducible refine (T1b.out _).mono ?_); rintro e wq ⟨rfl, rfl⟩))
    | (go_at_call 43; ((first | with_reducible refine T2a.out.mono ?_ | with_reducible refine (T2b.out _).mono ?_); rintro e wq ⟨rfl, rfl⟩))
    | fail))
  all_goals
    have K2 := Lib.hid (show Bk (w1.alloc (.cells #[.int .u64 (v0 : Int), .int .u64 (v1 : Int), .int .u64 (v2 : Int), .int .u64 0, .bool fl] 24)).drew pa 24 #[.int .u64 (v0 : Int), .int .u64 (v1 : Int), .int .u64 (v2 : Int), .int .u64 0, .bool fl] from (Bk.newAt w1 _ _ _ PA.out).drew)
    have B2 := Lib.hid (GDA.out (.cells #[.int .u64 (v0 : Int), .int .u64 (v1 : Int), .int .u64 (v2 : Int), .int .u64 0, .bool fl] 24))
    obtain ⟨w2, hw2⟩ : ∃ w2, (w1.alloc (.cells #[.int .u64 (v0 : Int), .int .u64 (v1 : Int), .int .u64 (v2 : Int), .int .u64 0, .bool fl] 24)).drew = w2 := ⟨_, rfl⟩
    rw [hw2] at K2 B2
    rw [hw2, PA.out]
    clear hw2
    have k2 := K2.out.cell 2
    have k3 := K2.out.cell 3
    have f3 := K2.out.frozen 3
    simp only [List.getElem?_toArray, List.getElem?_cons_zero, List.getElem?_cons_succ] at k2 k3
    go_upto_region 4 with (fail)
    have K3 := Lib.hid (K2.out.put 3 (.int .u64 (v2 : Int)))
    have B3 := Lib.hid (show Below w1.heap.size w1 (w2.setCell ⟨pa, 3, none⟩ (.int .u64 (v2 : Int))) from B2.out.setCell (Nat.le_of_eq PA.out) _)
    obtain ⟨w3, hw3⟩ : ∃ w3, w2.setCell ⟨pa, 3, none⟩ (.int .u64 (v2 : Int)) = w3 := ⟨_, rfl⟩
    rw [hw3] at K3 B3
    rw [hw3]
    clear hw3 k2 k3 f3 K2 B2
    have KR := Lib.hid (K1.out.below B3.out K1.out.lt)
    have P3 := Lib.hid (P1.out.below B3.out)
    have NPG := Lib.hid (show pa ≠ g0 ∧ g ≠ g0 from ⟨fun e => by have := K1.out.lt; have := PA.out; omega, fun e => by have := P1.out.ng; have := K0.out.lt; omega⟩)
    have SS : ∀ X : World, (∀ b, b ≠ g0 → X.heap[b]? = w3.heap[b]?) → X.cell? ⟨pa, 0, none⟩ = some (.int .u64 (v0 : Int)) ∧ X.cell? ⟨pa, 1, none⟩ = some (.int .u64 (v1 : Int)) ∧ X.cell? ⟨pa, 2, none⟩ = some (.int .u64 (v2 : Int)) ∧ X.cell? ⟨pa, 3, none⟩ = some (.int .u64 (v2 : Int)) ∧ X.cell? ⟨pa, 4, none⟩ = some (.bool fl) ∧ X.cell? ⟨g, 4, none⟩ = some (.slice A4 m c4) := fun X hX => by
      have q : Bk X pa _ _ := (hX pa NPG.out.1).trans K3.out
      exact ⟨q.cell 0, q.cell 1, q.cell 2, q.cell 3, q.cell 4, (World.cell?_of_block (a := ⟨g, 4, none⟩) (hX g NPG.out.2)).trans P3.out.k4⟩
    have SD := Lib.hid (show w3.drew.cell? ⟨pa, 0, none⟩ = some (.int .u64 (v0 : Int)) ∧ w3.drew.cell? ⟨pa, 1, none⟩ = some (.int .u64 (v1 : Int)) ∧ w3.drew.cell? ⟨pa, 2, none⟩ = some (.int .u64 (v2 : Int)) ∧ w3.drew.cell? ⟨pa, 3, none⟩ = some (.int .u64 (v2 : Int)) ∧ w3.drew.cell? ⟨pa, 4, none⟩ = some (.bool fl) ∧ w3.drew.cell? ⟨g, 4, none⟩ = some (.slice A4 m c4) from SS w3.drew fun b _ => rfl)
    have h6 : ∀ b, b ≠ g0 → ((((((w3.setCell ⟨g0, 0, none⟩ (.int .u64 (v0 : Int))).setCell ⟨g0, 1, none⟩ (.int .u64 (v1 : Int))).setCell ⟨g0, 2, none⟩ (.int .u64 (v2 : Int))).setCell ⟨g0, 3, none⟩ (.int .u64 (v2 : Int))).setCell ⟨g0, 4, none⟩ (.bool fl)).setCell ⟨g0, 5, none⟩ (.slice A4 m c4)).heap[b]? = w3.heap[b]? := fun b hb => st6_far w3 g0 ⟨v0, v1, v2, v2, fl⟩ A4 m c4 b hb
    have S6 := Lib.hid (show ((((((w3.setCell ⟨g0, 0, none⟩ (.int .u64 (v0 : Int))).setCell ⟨g0, 1, none⟩ (.int .u64 (v1 : Int))).setCell ⟨g0, 2, none⟩ (.int .u64 (v2 : Int))).setCell ⟨g0, 3, none⟩ (.int .u64 (v2 : Int))).setCell ⟨g0, 4, none⟩ (.bool fl)).setCell ⟨g0, 5, none⟩ (.slice A4 m c4)).drew.cell? ⟨pa, 0, none⟩ = some (.int .u64 (v0 : Int)) ∧ ((((((w3.setCell ⟨g0, 0, none⟩ (.int .u64 (v0 : Int))).setCell ⟨g0, 1, none⟩ (.int .u64 (v1 : Int))).setCell ⟨g0, 2, none⟩ (.int .u64 (v2 : Int))).setCell ⟨g0, 3, none⟩ (.int .u64 (v2 : Int))).setCell ⟨g0, 4, none⟩ (.bool fl)).setCell ⟨g0, 5, none⟩ (.slice A4 m c4)).drew.cell? ⟨pa, 1, none⟩ = some (.int .u64 (v1 : Int)) ∧ ((((((w3.setCell ⟨g0, 0, none⟩ (.int .u64 (v0 : Int))).setCell ⟨g0, 1, none⟩ (.int .u64 (v1 : Int))).setCell ⟨g0, 2, none⟩ (.int .u64 (v2 : Int))).setCell ⟨g0, 3, none⟩ (.int .u64 (v2 : Int))).setCell ⟨g0, 4, none⟩ (.bool fl)).setCell ⟨g0, 5, none⟩ (.slice A4 m c4)).drew.cell? ⟨pa, 2, none⟩ = some (.int .u64 (v2 : Int)) ∧ ((((((w3.setCell ⟨g0, 0, none⟩ (.int .u64 (v0 : Int))).setCell ⟨g0, 1, none⟩ (.int .u64 (v1 : Int))).setCell ⟨g0, 2, none⟩ (.int .u64 (v2 : Int))).setCell ⟨g0, 3, none⟩ (.int .u64 (v2 : Int))).setCell ⟨g0, 4, none⟩ (.bool fl)).setCell ⟨g0, 5, none⟩ (.slice A4 m c4)).drew.cell? ⟨pa, 3, none⟩ = some (.int .u64 (v2 : Int)) ∧ ((((((w3.setCell ⟨g0, 0, none⟩ (.int .u64 (v0 : Int))).setCell ⟨g0, 1, none⟩ (.int .u64 (v1 : Int))).setCell ⟨g0, 2, none⟩ (.int .u64 (v2 : Int))).setCell ⟨g0, 3, none⟩ (.int .u64 (v2 : Int))).setCell ⟨g0, 4, none⟩ (.bool fl)).setCell ⟨g0, 5, none⟩ (.slice A4 m c4)).drew.cell? ⟨pa, 4, none⟩ = some (.bool fl) ∧ ((((((w3.setCell ⟨g0, 0, none⟩ (.int .u64 (v0 : Int))).setCell ⟨g0, 1, none⟩ (.int .u64 (v1 : Int))).setCell ⟨g0, 2, none⟩ (.int .u64 (v2 : Int))).setCell ⟨g0, 3, none⟩ (.int .u64 (v2 : Int))).setCell ⟨g0, 4, none⟩ (.bool fl)).setCell ⟨g0, 5, none⟩ (.slice A4 m c4)).drew.cell? ⟨g, 4, none⟩ = some (.slice A4 m c4) from SS _ fun b hb => by rw [drew_heap]; exact h6 b hb)
    clear SS h6
    have j0 := KR.out.cell 0
    have j1 := KR.out.cell 1
    have j2 := KR.out.cell 2
    have j3 := KR.out.cell 3
    have j4 := KR.out.cell 4
    have j5 := KR.out.cell 5
    have z0 := KR.out.frozen 0
    have z1 := KR.out.frozen 1
    have z2 := KR.out.frozen 2
    have z3 := KR.out.frozen 3
    have z4 := KR.out.frozen 4
    have z5 := KR.out.frozen 5
    have i0 := KR.out.drew.cell 0
    have i1 := KR.out.drew.cell 1
    have i2 := KR.out.drew.cell 2
    have i3 := KR.out.drew.cell 3
    have i4 := KR.out.drew.cell 4
    have i5 := KR.out.drew.cell 5
    have y0 := KR.out.drew.frozen 0
    have y1 := KR.out.drew.frozen 1
    have y2 := KR.out.drew.frozen 2
    have y3 := KR.out.drew.frozen 3
    have y4 := KR.out.drew.frozen 4
    have y5 := KR.out.drew.frozen 5
    simp only [List.getElem?_toArray, List.getElem?_cons_zero, List.getElem?_cons_succ] at i0 i1 i2 i3 i4 i5 j0 j1 j2 j3 j4 j5
    (go_region_held3 (fun X => X.cell? ⟨pa, 0, none⟩ = some (.int .u64 (v0 : Int)) ∧ X.cell? ⟨pa, 1, none⟩ = some (.int .u64 (v1 : Int)) ∧ X.cell? ⟨pa, 2, none⟩ = some (.int .u64 (v2 : Int)) ∧ X.cell? ⟨pa, 3, none⟩ = some (.int .u64 (v2 : Int)) ∧ X.cell? ⟨pa, 4, none⟩ = some (.bool fl) ∧ X.cell? ⟨g, 4, none⟩ = some (.slice A4 m c4)) (first
      | with_reducible exact S6.out
      | with_reducible exact SD.out) (fail))
    go_wp2_with (fail)
    have KF := (((((((KR.out.put 0 (.int .u64 (v0 : Int))).put 1 (.int .u64 (v1 : Int))).put 2 (.int .u64 (v2 : Int))).put 3 (.int .u64 (v2 : Int))).put 4 (.bool fl)).put 5 (.slice A4 m c4)).drew)
    have M6 := (st6_mv (N := g0) (Nat.le_refl _) w3 ⟨v0, v1, v2, v2, fl⟩ A4 m c4)
    refine bodyPost_ret (results_cell_row rfl _ _ g0 57 #[.int .u64 (v0 : Int), .int .u64 (v1 : Int), .int .u64 (v2 : Int), .int .u64 (v2 : Int), .bool fl, .slice A4 m c4] (0, 0) _ rfl KF Tryd.underlying57 rfl Tryd.infoNc) rfl ?_
    refine ⟨A4, c4, rfl, (M6.rd P3.out.r4 fun a h0 ha e => ?_).drew, fun a h0 ha => ?_, ?_⟩
    · have := P3.out.far a h0 ha
      have := K0.out.lt
      have e' : a.block = g0 := e
      omega
    · have := P3.out.far a h0 ha
      have := B0.out.size
      omega
    · exact ((B1.out.trans (B3.out.mono B1.out.size)).trans (M6.bel.mono (Nat.le_of_eq HG.out))).drew
end Go.Proofs.YtnoflgkjdibblaaDoor.S21
