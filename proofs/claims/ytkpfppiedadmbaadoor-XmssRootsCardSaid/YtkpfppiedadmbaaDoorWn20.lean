/-
  Texts put together: Xn1, Xm6. No statement is proved here.
-/
import Derived.Test.YtkpfppiedadmbaaDoorWn19
import Derived.Test.YtkpfppiedadmbaaDoorWn12
import Derived.Test.YtkpfppiedadmbaaDoorWn17

/-
  A row cut in parts of 32 bytes, which are put one behind the other: what the library's Chunk, AppendSeq and Collect do. No statement is proved here.
-/
namespace Go.Proofs.YtkpfppiedadmbaaDoor.S16
set_option linter.unusedSimpArgs false
set_option linter.unusedVariables false
set_option maxRecDepth 4096
open Go.RowKit Go.Shelf S15
attribute [local go_sem] Oper.semAt_some

theorem chunk_any (A : Option Addr) (n c : Nat) (w : World) :
    Calls Tryd.prog 56 #[.slice A n c, .int .i64 32] w fun e w' => e = .returned (.func (.func 72) #[] #[.pointer (some ⟨w.heap.size, 0, none⟩), .pointer (some ⟨w.heap.size + 1, 0, none⟩)]) ∧ w' = (w.alloc (.cells #[.slice A n c] 29)).alloc (.cells #[.int .i64 32] 3) := by
  have hmf : ∀ (fn : Fn) (first cap : Array Value) (w : World), (Instr.makeFunc fn first cap).run Tryd.prog w = .ok (.func fn first cap) w := fun _ _ _ _ => rfl
  go_enter Tryd.func56, Tryd.ntmps56
  go_wp2
  go_ret
  exact ⟨rfl, rfl⟩
theorem run_cutLHM {A : Option Addr} {n c l' m : Nat} {l h : Int} (hl : l = l') (hh : h = l' + m) (hm : 0 < m) (hk : l' + m ≤ c) (W : World) :
    (Instr.slice 29 (.slice A n c) (some (.int .i64 l)) (some (.int .i64 h)) (some (.int .i64 h))).run Tryd.prog W = .ok (.slice (A.map (·.add l')) m m) W := by
  have ee : Tryd.prog.elem 29 = 5 := by kernel_rfl
  have hs : (sizeOf 5).run Tryd.prog W = .ok 1 W := by kernel_rfl
  have e1 : h.toNat - l' = m := by omega
  have e2 : l.toNat = l' := by omega
  have e3 : ¬ h.toNat = l' := by omega
  rw [run_slice_lhm W 29 A n c (by rw [ee]; exact Tryd.underlying29) .i64 .i64 .i64 l h h (by omega) (by omega) (by omega) (by omega), ee, hs]
  simp only [Result.andThen, sliced, Nat.mul_one, e2, e1, if_neg e3]
theorem run_cutLHMAt {A : Option Addr} {n c l' m : Nat} {l h : Int} (hl : l = l') (hh : h = l' + m) (hm : 0 < m) (hk : l' + m ≤ c) (W : World) :
    (Instr.sliceAt 29 (.slice A n c) (some (.int .i64 l)) (some (.int .i64 h)) (some (.int .i64 h))).run Tryd.prog W = .ok (.slice (A.map (·.add l')) m m) W := by
  have ee : Tryd.prog.elem 29 = 5 := by kernel_rfl
  rw [run_sliceAt_slice W 29 _ _ _ _ (by rw [ee]; exact Tryd.underlying29)]
  exact run_cutLHM hl hh hm hk W
theorem run_min2d {P : Program} (k : IntKind) (a b : Int) (w : World) : (Builtin.min2 (.int k a) (.int k b)).run P w = .ok (.int k (min a b)) w := by
  have e : (if b < a then b else a) = min a b := by split <;> omega
  simp only [Builtin.min2, e]
  rfl
theorem run_min2c {P : Program} (ts : Array TypeId) (t : TypeId) (k : IntKind) (a b r : Int) (h : min a b = r) (w : World) :
    (Builtin.min_ ts t #[.int k a, .int k b]).run P w = .ok (.int k r) w := by
  subst h
  simp [Builtin.min_, List.foldlM, run_min2d]
/-- The k-th part. -/
abbrev prt (A : Option Addr) (k : Nat) : Value := .slice (A.map (·.add (32 * k))) 32 32
set_option maxHeartbeats 2000000 in
theorem chunk_it (m : Nat) (hm : 1 ≤ m) (b1 b2 h c : Nat) (A : Option Addr) (hc : 32 * h ≤ c) (hh : h ≤ 60) :
    RD.ItW Tryd.prog m 72 #[.pointer (some ⟨b1, 0, none⟩), .pointer (some ⟨b2, 0, none⟩)] (fun k (_ : Unit) => #[prt A k]) (fun _ _ _ => True) h (fun X => Bk X b1 29 #[.slice A (32 * h : Nat) c] ∧ Bk X b2 3 #[.int .i64 32]) := by
  intro lp J W hJb hJo hY h0
  have HJB := Lib.hid hJb
  have HJO := Lib.hid hJo
  have HY := Lib.hid hY
  clear hJb hJo hY
  obtain ⟨M, hM⟩ : ∃ M : Nat, M = 32 * h := ⟨_, rfl⟩
  rw [← hM] at HJO hc
  have hM2 : M ≤ 1920 := by omega
  have HM := Lib.hid hM
  have g1 : W.cell? ⟨b1, 0, none⟩ = some (.slice A M c) := (HJO.out _ _ h0).1.cell 0
  clear hM
  refine callsIn_of_wp (args := #[.func (.yield lp) #[] #[], .pointer (some ⟨b1, 0, none⟩), .pointer (some ⟨b2, 0, none⟩)]) Tryd.func72 rfl trivial ?_ rfl
  simp only [Tryd.ntmps72, List.size_toArray, List.length_cons, List.length_nil, Nat.reduceAdd, Nat.reduceSub, Array.replicate_succ, Array.replicate_zero, List.push_toArray, List.append_toArray, List.nil_append, List.cons_append]
  gi_wp2_with (fail)
  gi_loopw [4] (fun i wr => ∃ j : Nat, j ≤ h ∧ i = .int .i64 ((32 * j : Nat) : Int) ∧ J j wr) (fun i _ => h - (intOf i).toNat / 32)
  case atStart => exact ⟨0, Nat.zero_le _, rfl, h0⟩
  case round =>
    obtain ⟨j, hj, rfl, hJ⟩ := hrel
    obtain ⟨K, hK⟩ : ∃ K : Nat, K = 32 * j := ⟨_, rfl⟩
    rw [← hK]
    obtain ⟨hb1, hb2⟩ := HJO.out _ _ hJ
    have k1 : wr.cell? ⟨b1, 0, none⟩ = some (.slice A M c) := hb1.cell 0
    have k2 : wr.cell? ⟨b2, 0, none⟩ = some (.int .i64 32) := hb2.cell 0
    have HJ := Lib.hid hJ
    by_cases hlt : j < h
    · have t0 : (K : Int) < (M : Int) := by have := HM.out; omega
      have hKM : K + 32 ≤ M := by have := HM.out; omega
      obtain ⟨A', hA'⟩ : ∃ A', A' = if c = K then A else A.map (·.add K) := ⟨_, rfl⟩
      have C1 : ∀ X, (Instr.slice 29 (.slice A M c) (some (.int .i64 (K : Int))) none none).run Tryd.prog X = .ok (.slice A' (M - K) (c - K)) X := fun X => by rw [hA']; exact S2.run_cutSl rfl (by omega) X
      have C2 : ∀ X, (Instr.sliceAt 29 (.slice A M c) (some (.int .i64 (K : Int))) none none).run Tryd.prog X = .ok (.slice A' (M - K) (c - K)) X := fun X => by rw [hA']; exact S2.run_cutSlAt rfl (by omega) X
      have D1 : ∀ X, (Instr.slice 29 (.slice A M c) (some (.int .i64 (K : Int))) (some (.int .i64 ((K : Int) + 32))) (some (.int .i64 ((K : Int) + 32)))).run Tryd.prog X = .ok (.slice (A.map (·.add K)) 32 32) X := fun X => run_cutLHM (l' := K) (m := 32) rfl rfl (by omega) (by omega) X
      have D2 : ∀ X, (Instr.sliceAt 29 (.slice A M c) (some (.int .i64 (K : Int))) (some (.int .i64 ((K : Int) + 32))) (some (.int .i64 ((K : Int) + 32)))).run Tryd.prog X = .ok (.slice (A.map (·.add K)) 32 32) X := fun X => run_cutLHMAt (l' := K) (m := 32) rfl rfl (by omega) (by omega) X
      obtain ⟨R, hR⟩ : ∃ R : Nat, R = M - K := ⟨_, rfl⟩
      rw [← hR] at C1 C2
      have mn : ∀ X, (Builtin.min_ #[3, 3] 3 #[.int .i64 32, .int .i64 (R : Int)]).run Tryd.prog X = .ok (.int .i64 32) X := fun X => run_min2c _ _ _ _ _ _ (by omega) X
      have w1 : IntKind.i64.wrap ((K : Int) + 32) = (K : Int) + 32 := by rw [IntKind.wrap_i64]; omega
      have YX := Lib.hid (show YieldAt Fence.wide (m - 1) Tryd.prog lp #[.slice (A.map (·.add K)) 32 32] wr.drew fun e X' => e = .returned (.bool true) ∧ J (j + 1) X' from by
        have h9 := HY.out j () wr.drew (HJB.out _ _ _ HJ.out (Below.refl _ _).drew) hlt trivial
        rw [hK]
        exact h9)
      have HK := Lib.hid hK
      have BD := Lib.hid (Below.refl wr.heap.size wr).drew
      clear hJ h0 hb1 hb2 hA' hR hK g1
      gi_wp2_with (fail)
      refine wpIn_wide.2 ?_
      (go_region_held3 (fun X => X.cell? ⟨b1, 0, none⟩ = some (.slice A M c) ∧ X.cell? ⟨b2, 0, none⟩ = some (.int .i64 32)) (exact ⟨k1, k2⟩) (fail))
      obtain ⟨fn, tmps, assign, body, hy, hRR⟩ := YX.out
      gi_wp2_with (first
        | (refine hRR.mono ?_; rintro e w2 ⟨rfl, hJ2⟩; have J2 := Lib.hid hJ2; have c2 : w2.cell? ⟨b2, 0, none⟩ = some (.int .i64 32) := (HJO.out _ _ hJ2).2.cell 0; clear hJ2)
        | (refine ⟨trivial, ?_⟩; refine hRR.mono ?_; rintro e w2 ⟨rfl, hJ2⟩; have J2 := Lib.hid hJ2; have c2 : w2.cell? ⟨b2, 0, none⟩ = some (.int .i64 32) := (HJO.out _ _ hJ2).2.cell 0; clear hJ2)
        | (refine ⟨trivial, fun h => (by simp [Fence.wide] at h), ?_⟩; refine hRR.mono ?_; rintro e w2 ⟨rfl, hJ2⟩; have J2 := Lib.hid hJ2; have c2 : w2.cell? ⟨b2, 0, none⟩ = some (.int .i64 32) := (HJO.out _ _ hJ2).2.cell 0; clear hJ2))
      go_roundw
      case rel => exact ⟨j + 1, by omega, by rw [HK.out]; go_num, J2.out⟩
      case measure => have := HK.out; simp [intOf]; omega
    · obtain rfl : j = h := by omega
      have t0 : ¬ (K : Int) < (M : Int) := by have := HM.out; omega
      clear hJ h0 hb1 hb2 hK g1
      gi_wp2
      go_end0
      exact ⟨⟨_, rfl⟩, HJ.out⟩
/-- The parts of a row. -/
def prts (A : Option Addr) (k : Nat) : List Value := (List.range k).map (prt A)
theorem prts_succ (A : Option Addr) (k : Nat) : prts A (k + 1) = prts A k ++ [prt A k] := by simp [prts, List.range_succ]
theorem prts_get (A : Option Addr) {k j : Nat} (h : j < k) : (prts A k)[j]? = some (prt A j) := by simp [prts, h]
theorem ownsRow_put {w : World} {base size n : Nat} {e : TypeId} {v : Value} {xs : List Value} (h : w.ownsRow base e size v n xs) {l : Nat} {o : Obj} (o' : Obj) (hl : w.heap[l]? = some o) (ho : o.isCells = false) : (w.putObj l o').ownsRow base e size v n xs :=
  (RD.CK.putObj hl ho).own h
set_option maxHeartbeats 2000000 in
theorem gather_any (A : Option Addr) (h c b1 b2 : Nat) (w : World) (hc : 32 * h ≤ c) (hh : h ≤ 60) (h1 : Bk w b1 29 #[.slice A (32 * h : Nat) c]) (h2 : Bk w b2 3 #[.int .i64 32]) :
    Calls Tryd.prog 71 #[.slice none 0 0, .func (.func 72) #[] #[.pointer (some ⟨b1, 0, none⟩), .pointer (some ⟨b2, 0, none⟩)]] w fun e w' => ∃ A' c', e = .returned (.slice A' h c') ∧ w'.ownsRow w.heap.size 29 1 (.slice A' h c') h (prts A h) ∧ Below w.heap.size w w' := by
  refine (callsIn_wide (n := 3)).1 ?_
  obtain ⟨i0, hi, hz0, hz1, hz2⟩ := info_parts Tryd.infoRows
  have H1 := Lib.hid h1
  have H2 := Lib.hid h2
  have bO := Boxed.new w 65 (.slice none 0 0)
  have hB0 : Below w.heap.size w (w.alloc (.cells #[.slice none 0 0] 65)) := (Below.refl _ w).alloc (Nat.le_refl _) _
  have HX := Lib.hid (show Boxed (w.alloc (.cells #[.slice none 0 0] 65)) w.heap.size 65 (.slice none 0 0) ∧ Below w.heap.size w (w.alloc (.cells #[.slice none 0 0] 65)) ∧ (w.alloc (.cells #[.slice none 0 0] 65)).heap.size = w.heap.size + 1 from ⟨bO, hB0, by simp⟩)
  clear h1 h2 bO hB0
  refine callsIn_of_wp_marks Tryd.func71 rfl trivial ?_ rfl
  simp only [Tryd.ntmps71, List.size_toArray, List.length_cons, List.length_nil, Nat.reduceAdd, Nat.reduceSub, Array.replicate_succ, Array.replicate_zero, List.push_toArray, List.append_toArray, List.nil_append, List.cons_append]
  gi_wp2
  obtain ⟨wL, hL⟩ : ∃ wL, w.alloc (.cells #[.slice none 0 0] 65) = wL := ⟨_, rfl⟩
  rw [hL] at HX ⊢
  clear hL
  obtain ⟨bO, hB0, hsz⟩ := HX.out
  clear HX
  refine RD.range_rounds (m := 3) (gf := 72) (lb := #[.pointer (some ⟨b1, 0, none⟩), .pointer (some ⟨b2, 0, none⟩)]) (encs := fun k (_ : Unit) => #[prt A k]) rfl (enters_of Tryd.func72 (by kernel_rfl) rfl)
    (chunk_it 2 (by omega) b1 b2 h c A hc hh) (fun _ _ => rfl)
    (fun k W => (∃ u, Boxed W w.heap.size 65 u ∧ W.ownsRow wL.heap.size 29 1 u k (prts A k) ∧ True) ∧ Below w.heap.size w W ∧ wL.heap.size ≤ W.heap.size)
    (OwnFrom.and (Own.from (holdsRow_own wL.heap.size w.heap.size 65 29 1 (fun k => k) (fun k : Nat => prts A k) (fun _ u => True)) _) (OwnFrom.and (ownFrom_below (Nat.le_refl _) (by omega)) (fun _ _ _ _ h hg _ => Nat.le_trans h hg.size)))
    (fun k X hI => ⟨H1.out.below hI.2.1 H1.out.lt, H2.out.below hI.2.1 H2.out.lt⟩)
    ⟨⟨_, bO, World.ownsRow_nil _ _ _ _, trivial⟩, hB0, Nat.le_refl _⟩
    (fun _ _ _ _ _ _ _ _ _ _ => trivial)
    (fun k _ => { tmps := #[.slice none 0 0, .func (.func 72) #[] #[.pointer (some ⟨b1, 0, none⟩), .pointer (some ⟨b2, 0, none⟩)], .pointer (some ⟨w.heap.size, 0, none⟩), undef, .slice none 0 0, prt A k, .func (.func 72) #[] #[.pointer (some ⟨b1, 0, none⟩), .pointer (some ⟨b2, 0, none⟩)], prt A k, undef, undef, undef, undef, undef], defers := [] }) ?assign ?body ?done
  case assign =>
    intro l k x W K hK
    gi_wp2
    exact hK
  case body =>
    rintro l k x W ⟨⟨u, hu, hrow, _⟩, hB, hWs⟩ hlt _
    have hc := hu.cell
    obtain ⟨A2, hA2⟩ : ∃ A2, A2 = A.map (·.add (32 * k)) := ⟨_, rfl⟩
    have HPV := Lib.hid (show Value.slice A2 32 32 = prt A k by rw [hA2])
    unfold prt
    rw [← hA2]
    clear hA2
    gi_wp2_with (gi_at_builtin; refine wpListIn_append_own _ rfl _ _ 65 rfl wL.heap.size 29 i0 (.slice none 0 0) 1 24 Tryd.underlying65 hi hz0 hz1 hz2 rfl (by decide) _ _ _ rfl (hrow.alloc _) ⟨W.heap.size, 0, none⟩ 1 1 [.slice A2 32 32] rfl rfl (cell_one_new _ _ _) (by simp [Value.oneCell']) (by simp only [maxLen]; omega) (by omega) (by simp; omega) ?_; intro v' w1 hown' hgrow _; obtain ⟨g', cap', rfl⟩ := ownsRow_succ hown'; obtain ⟨hv1, hv2, hr2, hk2, hb2, hb3⟩ := appended2 hu hrow hWs (by omega) hown' hgrow; have hc1 := hv1.cell; have hf1 := hv1.frozen)
    exact ⟨hk2.from _, ⟨_, hv2, by rw [prts_succ, ← HPV.out, ← hsz]; exact hr2⟩, hB.trans (hb2 _ (Nat.le_refl _)), by have := (hb2 w.heap.size (Nat.le_refl _)).size; simp at this; omega⟩
  case done =>
    intro D' W hD' ⟨⟨u, hu, hrow, _⟩, hB, _⟩ hK
    obtain ⟨Au, cu, rfl⟩ := own_form hrow
    have hc := hu.cell
    have HR := Lib.hid hrow
    have HB := Lib.hid hB
    have HK := Lib.hid hK
    clear hrow hB hK
    gi_wp2
    refine ⟨by simp, .inl ⟨_, _, rfl, run_takeDeferred HK.out, ?_⟩⟩
    exact ⟨_, results_tmp rfl _ _ _, Au, cu, rfl, own_base ((RD.CK.putObj HK.out rfl).own HR.out) (by omega), HB.out.trans (belowK_b (w := w) (Nat.le_refl _) W D' _ _ (by omega) HK.out rfl rfl)⟩
end Go.Proofs.YtkpfppiedadmbaaDoor.S16

/-
  The landed package xmss: an address, where a leaf and its way lead. No statement is proved here.
-/
namespace Go.Proofs.YtkpfppiedadmbaaDoor.S16
set_option linter.unusedSimpArgs false
set_option linter.unusedVariables false
set_option maxRecDepth 4096
open Go.RowKit S15

set_option maxHeartbeats 1000000 in
theorem sumPlace_any (ly tr g i : Nat) (hg : g < 2147483648) (w : World) :
    Calls Tryd.prog 45 #[.int .u32 (ly : Int), .int .u64 (tr : Int), .int .i64 (g : Int), .int .u32 (i : Int)] w fun e w' => e = .returned (adV (adT ly tr g i)) ∧ Below w.heap.size w w' := by
  have HR := Lib.hid (Bk.new w 77 #[.int .u32 0, .int .u64 0, .int .u32 0, .int .u32 0, .int .u32 0, .int .u32 0])
  have HB := Lib.hid (show Below w.heap.size w (w.alloc (.cells #[.int .u32 0, .int .u64 0, .int .u32 0, .int .u32 0, .int .u32 0, .int .u32 0] 77)) from (Below.refl _ _).alloc (Nat.le_refl _) _)
  have ei : (g : Int) % 4294967296 = (g : Int) := by omega
  unfold adV
  go_enter Tryd.func45, Tryd.ntmps45
  go_upto_region 1 with (fail)
  obtain ⟨W, hW⟩ : ∃ W, w.alloc (.cells #[.int .u32 0, .int .u64 0, .int .u32 0, .int .u32 0, .int .u32 0, .int .u32 0] 77) = W := ⟨_, rfl⟩
  rw [hW] at HR HB ⊢
  have d0 := HR.out.cell 0
  have d1 := HR.out.cell 1
  have d2 := HR.out.cell 2
  have d3 := HR.out.cell 3
  have d4 := HR.out.cell 4
  have d5 := HR.out.cell 5
  have e0 := HR.out.frozen 0
  have e1 := HR.out.frozen 1
  have e2 := HR.out.frozen 2
  have e3 := HR.out.frozen 3
  have e4 := HR.out.frozen 4
  have e5 := HR.out.frozen 5
  simp at d0 d1 d2 d3 d4 d5
  clear hW
  go_wp2
  refine bodyPost_ret (results_cell_row rfl _ _ w.heap.size 77 #[.int .u32 (ly : Int), .int .u64 (tr : Int), .int .u32 2, .int .u32 0, .int .u32 (g : Int), .int .u32 (i : Int)] (0, 0) _ rfl ((((((HR.out.put 0 _).put 1 _).put 2 _).put 3 _).put 4 _).put 5 _) Tryd.underlying77 rfl Tryd.infoAd) rfl ?_
  exact ⟨rfl, (((((HB.out.setCell (by simp) _).setCell (by simp) _).setCell (by simp) _).setCell (by simp) _).setCell (by simp) _).setCell (by simp) _⟩
abbrev plA (ly tr q : Nat) : Array Value := #[.int .u32 (ly : Int), .int .u64 (tr : Int), .int .u32 (q : Int)]
theorem climb_take (sd : List UInt8) (ly tr : Nat) : ∀ (k g i : Nat) (x l : List UInt8), climbF sd ly tr g k i x (l.take (32 * k)) = climbF sd ly tr g k i x l
  | 0, g, i, x, l => rfl
  | k + 1, g, i, x, l => by
    simp only [climbF]
    rw [List.take_take, show min 32 (32 * (k + 1)) = 32 by omega, List.drop_take, show 32 * (k + 1) - 32 = 32 * k by omega, climb_take sd ly tr k]
set_option maxHeartbeats 2000000 in
/-- The function value that tells the sum above two. -/
theorem above_any (ly tr q j i bs bp : Nat) (hj : j < 60) (hi : i < 4294967296) (hly : ly < 4294967296) (htr : tr < 18446744073709551616) (Ae : Option Addr) (ce : Nat) (sd : List UInt8) (A1 : Option Addr) (c1 : Nat) (xs : List UInt8) (A2 : Option Addr) (c2 : Nat) (ys : List UInt8) (w : World) (hk : GK w) (hs : Bk w bs 29 #[.slice Ae 32 ce]) (hp : Bk w bp 56 (plA ly tr q)) (he : Rd w Ae 32 ce sd) (h1 : Rd w A1 32 c1 xs) (h2 : Rd w A2 32 c2 ys) :
    Calls Tryd.prog 53 #[.int .i64 ((j : Int) + 1), .int .u32 (i : Int), .slice A1 32 c1, .slice A2 32 c2, .pointer (some ⟨bs, 0, none⟩), .pointer (some ⟨bp, 0, none⟩)] w (New w.heap.size w (hL sd (adT ly tr j i) xs ys)) := by
  have SP := Lib.hid (show ∀ X, Calls Tryd.prog 45 #[.int .u32 (ly : Int), .int .u64 (tr : Int), .int .i64 (j : Int), .int .u32 (i : Int)] X fun e w' => e = .returned (adV (adT ly tr j i)) ∧ Below X.heap.size X w' from fun X => sumPlace_any ly tr j i (by omega) X)
  have hOk : (adT ly tr j i).Ok := ⟨hly, htr, by show 2 < _; omega, by show 0 < _; omega, by show j < _; omega, by show i < _; omega⟩
  have HV := Lib.hid (show ∀ X, Below w.heap.size w X → Calls Tryd.prog 44 #[.slice Ae 32 ce, adV (adT ly tr j i), .slice A1 32 c1, .slice A2 32 c2] X (New X.heap.size X (hL sd (adT ly tr j i) xs ys)) from fun X hX => h_any _ hOk Ae ce sd A1 c1 xs A2 c2 ys X (hk.bel hX) (he.below hX) (h1.below hX) (h2.below hX))
  have k0 : w.cell? ⟨bs, 0, none⟩ = some (.slice Ae 32 ce) := hs.cell 0
  have p0 : w.cell? ⟨bp, 0, none⟩ = some (.int .u32 (ly : Int)) := hp.cell 0
  have p1 : w.cell? ⟨bp, 1, none⟩ = some (.int .u64 (tr : Int)) := hp.cell 1
  have KS := Lib.hid (show ∀ X, Below w.heap.size w X → X.cell? ⟨bs, 0, none⟩ = some (.slice Ae 32 ce) ∧ X.cell? ⟨bp, 0, none⟩ = some (.int .u32 (ly : Int)) ∧ X.cell? ⟨bp, 1, none⟩ = some (.int .u64 (tr : Int)) from fun X hX => ⟨(hs.below hX hs.lt).cell 0, (hp.below hX hp.lt).cell 0, (hp.below hX hp.lt).cell 1⟩)
  have BZ := Lib.hid (Below.refl w.heap.size w)
  have e1 : IntKind.i64.wrap ((j : Int) + 1 - 1) = (j : Int) := by rw [IntKind.wrap_i64]; omega
  have e2 : IntKind.i64.wrap (j : Int) = (j : Int) := by rw [IntKind.wrap_i64]; omega
  clear hOk hk hs hp he h1 h2 hly htr
  go_enter Tryd.func53, Tryd.ntmps53
  go_upto_region 1 with (fail)
  (go_region_held3 (fun X => X.cell? ⟨bs, 0, none⟩ = some (.slice Ae 32 ce) ∧ X.cell? ⟨bp, 0, none⟩ = some (.int .u32 (ly : Int)) ∧ X.cell? ⟨bp, 1, none⟩ = some (.int .u64 (tr : Int)))
    (first
      | exact KS.out _ B2.out
      | exact KS.out _ B1.out
      | exact KS.out _ BZ.out.drew)
    (first
      | (go_at_call 45; ((with_reducible refine (SP.out _).mono ?_); rintro e w1 ⟨rfl, b1⟩; have B1 := Lib.hid (BZ.out.drew.trans (b1.mono BZ.out.size)); clear b1))
      | (go_at_call 44; ((with_reducible refine (HV.out _ B1.out).mono ?_); rintro e w2 ⟨A3, n3, c3, rfl, q3, b3⟩; have O3 := Lib.hid q3; have B2 := Lib.hid (B1.out.trans (b3.mono B1.out.size)); clear q3 b3))
      | fail))
  go_wp2
  go_ret
  exact New.mk (own_base O3.out B1.out.size) B2.out
/-- Rows of 32 bytes that lie in a row of bytes. -/
structure Pts (w : World) (A : Option Addr) (c h : Nat) (way : List UInt8) : Prop where
  at_ : ∀ j, j < h → ∃ b off B cB, A = some ⟨b, off, none⟩ ∧ w.cell? ⟨b, off + j, none⟩ = some (.slice B 32 cB) ∧ b < w.heap.size ∧ Rd w B 32 cB ((way.drop (32 * j)).take 32)
  cap : h ≤ c
set_option maxHeartbeats 4000000 in
theorem up16_any (ly tr q h bs bp : Nat) (hly : ly < 4294967296) (htr : tr < 18446744073709551616) (hq : q < 4294967296) (hh : h ≤ 60) (Ae : Option Addr) (ce : Nat) (sd : List UInt8) (Ax : Option Addr) (cx : Nat) (xs : List UInt8) (Aw : Option Addr) (cw : Nat) (way : List UInt8) (w : World) (hk : GK w) (hs : Bk w bs 29 #[.slice Ae 32 ce]) (hp : Bk w bp 56 (plA ly tr q)) (he : Rd w Ae 32 ce sd) (hx : Rd w Ax 32 cx xs) (hw : Pts w Aw cw h way) :
    Calls Tryd.prog 54 #[.slice Ax 32 cx, .int .u32 (q : Int), .slice Aw h cw, .func (.func 53) #[] #[.pointer (some ⟨bs, 0, none⟩), .pointer (some ⟨bp, 0, none⟩)]] w (Gives32 w (climbF sd ly tr 0 h q xs way)) := by
  have HK := Lib.hid hk
  have HE := Lib.hid he
  have HX := Lib.hid hx
  have HW := Lib.hid hw
  have HS := Lib.hid hs
  have HP := Lib.hid hp
  obtain ⟨R, hR⟩ : ∃ R, climbF sd ly tr 0 h q xs way = R := ⟨_, rfl⟩
  have HR := Lib.hid hR
  rw [hR]
  clear hk he hx hw hR hs hp
  go_enter Tryd.func54, Tryd.ntmps54
  go_wp2
  go_loopw [0, 1, 15] (fun sum i g wr => ∃ (j : Nat) (A : Option Addr) (c : Nat) (y : List UInt8), j ≤ h ∧ g = .int .i64 (j : Int) ∧ i = .int .u32 ((q / 2 ^ j : Nat) : Int) ∧ sum = .slice A 32 c ∧ Rd wr A 32 c y ∧ climbF sd ly tr j (h - j) (q / 2 ^ j) y (way.drop (32 * j)) = R ∧ Below w.heap.size w wr)
    (fun _ _ g _ => h - (intOf g).toNat)
  case atStart =>
    exact ⟨0, Ax, cx, xs, Nat.zero_le _, rfl, by simp, rfl, HX.out, by simpa using HR.out, Below.refl _ _⟩
  case round =>
    obtain ⟨j, A, c, y, hj, rfl, rfl, rfl, r1, hc, hbel⟩ := hrel
    have hq2 : q / 2 ^ j ≤ q := Nat.div_le_self _ _
    obtain ⟨i, hi⟩ : ∃ i : Nat, i = q / 2 ^ j := ⟨_, rfl⟩
    have hq3 : q / 2 ^ (j + 1) = i / 2 := by rw [Nat.pow_succ, ← Nat.div_div_eq_div_mul, hi]
    have HQ := Lib.hid hq3
    rw [← hi] at hq2 hc ⊢
    have RA := Lib.hid r1
    have BL := Lib.hid hbel
    have HC := Lib.hid hc
    have i32 : i < 4294967296 := by omega
    clear r1 hbel hc hi hq3 hq2
    by_cases hlt : j < h
    · obtain ⟨b, off, B, cB, rfl, k1, hb, r2⟩ := HW.out.at_ j hlt
      have t0 : (j : Int) < (h : Int) := by omega
      have d1 : wr.cell? ⟨b, off + j, none⟩ = some (.slice B 32 cB) := (BL.out.cell (p := ⟨b, off + j, none⟩) hb).trans k1
      have HSS := Lib.hid (show climbF sd ly tr (j + 1) (h - (j + 1)) (i / 2) (joinT sd ly tr j i y ((way.drop (32 * j)).take 32)) (way.drop (32 * (j + 1))) = R by
        have := HC.out
        rw [show h - j = (h - (j + 1)) + 1 by omega, climbF, List.drop_drop, show 32 * j + 32 = 32 * (j + 1) by omega] at this
        exact this)
      obtain ⟨z, hz⟩ : ∃ z, z = (way.drop (32 * j)).take 32 := ⟨_, rfl⟩
      rw [← hz] at r2 HSS
      have e2 : ((i / 2 : Nat) : Int) = (i : Int) / 2 := by omega
      have RB := Lib.hid (r2.below BL.out)
      have HV := Lib.hid (show Calls Tryd.prog 53 #[.int .i64 ((j : Int) + 1), .int .u32 ((i : Int) / 2), .slice A 32 c, .slice B 32 cB, .pointer (some ⟨bs, 0, none⟩), .pointer (some ⟨bp, 0, none⟩)] wr (New wr.heap.size wr (hL sd (adT ly tr j (i / 2)) y z)) from by
        rw [← e2]
        exact above_any ly tr q j (i / 2) bs bp (by omega) (by omega) hly htr Ae ce sd A c y B cB z wr (HK.out.bel BL.out) (HS.out.below BL.out HS.out.lt) (HP.out.below BL.out HP.out.lt) (HE.out.below BL.out) RA.out RB.out)
      have HO := Lib.hid (show Calls Tryd.prog 53 #[.int .i64 ((j : Int) + 1), .int .u32 ((i : Int) / 2), .slice B 32 cB, .slice A 32 c, .pointer (some ⟨bs, 0, none⟩), .pointer (some ⟨bp, 0, none⟩)] wr (New wr.heap.size wr (hL sd (adT ly tr j (i / 2)) z y)) from by
        rw [← e2]
        exact above_any ly tr q j (i / 2) bs bp (by omega) (by omega) hly htr Ae ce sd B cB z A c y wr (HK.out.bel BL.out) (HS.out.below BL.out HS.out.lt) (HP.out.below BL.out HP.out.lt) (HE.out.below BL.out) RB.out RA.out)
      clear hz e2 k1 hb r2
      by_cases po : i % 2 = 1
      · have e1 : joinT sd ly tr j i y z = hL sd (adT ly tr j (i / 2)) z y := by rw [joinT, if_pos po]
        rw [e1] at HSS
        have t1 : ((i : Int) % 2 == 1) = true := by simp; omega
        clear e1 po
        go_wp2_with (go_at_call 53; ((with_reducible refine HO.out.mono ?_); rintro e w3 ⟨A3, n3, c3, rfl, q3, b3⟩; obtain rfl : n3 = 32 := (own_len q3).symm.trans (num_len _ _ _); have R3 := Lib.hid (Rd.own q3); have B3 := Lib.hid (BL.out.trans (b3.mono BL.out.size)); clear q3 b3))
        go_roundw
        case rel => exact ⟨j + 1, A3, c3, _, by omega, by go_num, by rw [HQ.out]; simp, rfl, R3.out, by rw [HQ.out]; exact HSS.out, B3.out⟩
        case measure => simp [intOf]; omega
      · have e1 : joinT sd ly tr j i y z = hL sd (adT ly tr j (i / 2)) y z := by rw [joinT, if_neg po]
        rw [e1] at HSS
        have t1 : ((i : Int) % 2 == 1) = false := by simp; omega
        clear e1 po
        go_wp2_with (go_at_call 53; ((with_reducible refine HV.out.mono ?_); rintro e w3 ⟨A3, n3, c3, rfl, q3, b3⟩; obtain rfl : n3 = 32 := (own_len q3).symm.trans (num_len _ _ _); have R3 := Lib.hid (Rd.own q3); have B3 := Lib.hid (BL.out.trans (b3.mono BL.out.size)); clear q3 b3))
        go_roundw
        case rel => exact ⟨j + 1, A3, c3, _, by omega, by go_num, by rw [HQ.out]; simp, rfl, R3.out, by rw [HQ.out]; exact HSS.out, B3.out⟩
        case measure => simp [intOf]; omega
    · obtain rfl : j = h := by omega
      have t0 : ¬ (j : Int) < (j : Int) := by omega
      have hy : y = R := by
        have := HC.out
        rw [Nat.sub_self] at this
        exact this
      subst hy
      go_wp2
      go_ret
      exact ⟨A, c, rfl, RA.out, BL.out⟩
theorem collect_any (A : Option Addr) (h c b1 b2 : Nat) (w : World) (hc : 32 * h ≤ c) (hh : h ≤ 60) (h1 : Bk w b1 29 #[.slice A (32 * h : Nat) c]) (h2 : Bk w b2 3 #[.int .i64 32]) :
    Calls Tryd.prog 55 #[.func (.func 72) #[] #[.pointer (some ⟨b1, 0, none⟩), .pointer (some ⟨b2, 0, none⟩)]] w fun e w' => ∃ A' c', e = .returned (.slice A' h c') ∧ w'.ownsRow w.heap.size 29 1 (.slice A' h c') h (prts A h) ∧ Below w.heap.size w w' := by
  have GA := Lib.hid (gather_any A h c b1 b2 w hc hh h1 h2)
  clear hc hh h1 h2
  go_enter Tryd.func55, Tryd.ntmps55
  go_wp2_with (go_at_call 71; ((with_reducible refine GA.out.mono ?_); rintro e w1 ⟨A', c', rfl, o1, b1⟩; have O1 := Lib.hid o1; have B1 := Lib.hid b1; clear o1 b1))
  go_ret
  exact ⟨A', c', rfl, O1.out, B1.out⟩
/-- The parts, put one behind the other, read as they should. -/
theorem pts_mk {w w0 : World} {A A' : Option Addr} {h c c' : Nat} {way : List UInt8} (hr : Rd w0 A (32 * h) c way) (hb : Below w0.heap.size w0 w) {B : Nat} (ho : w.ownsRow B 29 1 (.slice A' h c') h (prts A h)) : Pts w A' c' h way := by
  refine ⟨fun j hj => ?_, ?_⟩
  · have hcap := hr.cap
    have r := ((hr.below hb).cut (k := 32 * j) (by omega)).take (k := 32) (by omega)
    rw [if_neg (by omega)] at r
    rcases ho.2 with ⟨_, h0⟩ | ⟨g, cap, cur, hv, hB, hh, h1, h2, h3, h4⟩
    · omega
    · injection hv with hv _ _
      subst hv
      refine ⟨g, 0, A.map (·.add (32 * j)), 32, rfl, ?_, (Array.getElem?_eq_some_iff.1 hh).1, ?_⟩
      · have := ho.cellAt j (by omega)
        rw [prts_get _ hj] at this
        simpa using this
      · exact ⟨r.len, Nat.le_refl _, by simp [maxLen], (fun e => by have h9 := r.at_ (by omega); rw [e] at h9; obtain ⟨_, _, h, _⟩ := h9; cases h), r.at_⟩
  · rcases ho.2 with ⟨hv, h0⟩ | ⟨g, cap, cur, hv, hB, hh, h1, h2, h3, h4⟩
    · injection hv; omega
    · injection hv; omega
set_option maxHeartbeats 4000000 in
theorem climb_any (ly tr q h : Nat) (hly : ly < 4294967296) (htr : tr < 18446744073709551616) (hq : q < 4294967296) (hh : h ≤ 60) (Ae : Option Addr) (ce : Nat) (sd : List UInt8) (Ax : Option Addr) (cx : Nat) (xs : List UInt8) (Aw : Option Addr) (cw : Nat) (way : List UInt8) (w : World) (hk : GK w) (he : Rd w Ae 32 ce sd) (hx : Rd w Ax 32 cx xs) (hw : Rd w Aw (32 * h) cw way) :
    Calls Tryd.prog 37 #[.agg (plA ly tr q), .slice Ae 32 ce, .slice Ax 32 cx, .slice Aw (32 * h : Nat) cw] w (Gives32 w (climbF sd ly tr 0 h q xs way)) := by
  have hmf : ∀ (fn : Fn) (first cap : Array Value) (w : World), (Instr.makeFunc fn first cap).run Tryd.prog w = .ok (.func fn first cap) w := fun _ _ _ _ => rfl
  obtain ⟨b, hb⟩ : ∃ b, w.heap.size = b := ⟨_, rfl⟩
  obtain ⟨w0, hw0⟩ : ∃ w0, (w.alloc (.cells (plA ly tr q) 56)).alloc (.cells #[.slice Ae 32 ce] 29) = w0 := ⟨_, rfl⟩
  have P0 := Lib.hid (show Bk w0 b 56 (plA ly tr q) by rw [← hw0]; exact (Bk.newAt _ _ _ _ hb).alloc _)
  have S0 := Lib.hid (show Bk w0 (b + 1) 29 #[.slice Ae 32 ce] by rw [← hw0]; exact Bk.newAt _ _ _ _ (by simp [hb]))
  have B0 := Lib.hid (show Below w.heap.size w w0 by rw [← hw0]; exact ((Below.refl _ _).alloc (Nat.le_refl _) _).alloc (by simp) _)
  have k2 : w0.cell? ⟨b, 2, none⟩ = some (.int .u32 (q : Int)) := P0.out.cell 2
  have BP := Lib.hid (show ∀ X, Below w0.heap.size w0 X → X.cell? ⟨b, 2, none⟩ = some (.int .u32 (q : Int)) from fun X hX => (P0.out.below hX P0.out.lt).cell 2)
  have BD := Lib.hid (Below.refl w0.heap.size w0)
  have hcap := hw.cap
  obtain ⟨M, hM⟩ : ∃ M : Nat, M = 32 * h := ⟨_, rfl⟩
  have CH := Lib.hid (show ∀ X, Calls Tryd.prog 56 #[.slice Aw M cw, .int .i64 32] X fun e w' => ∃ b1 b2, e = .returned (.func (.func 72) #[] #[.pointer (some ⟨b1, 0, none⟩), .pointer (some ⟨b2, 0, none⟩)]) ∧ (Bk w' b1 29 #[.slice Aw M cw] ∧ Bk w' b2 3 #[.int .i64 32] ∧ Below X.heap.size X w') from fun X => (chunk_any Aw M cw X).mono (by
    rintro e w' ⟨rfl, rfl⟩
    exact ⟨_, _, rfl, (Bk.new _ _ _).alloc _, Bk.newAt _ _ _ _ (by simp), ((Below.refl _ _).alloc (Nat.le_refl _) _).alloc (by simp) _⟩))
  have CO := Lib.hid (show ∀ X b1 b2, Bk X b1 29 #[.slice Aw M cw] → Bk X b2 3 #[.int .i64 32] → Calls Tryd.prog 55 #[.func (.func 72) #[] #[.pointer (some ⟨b1, 0, none⟩), .pointer (some ⟨b2, 0, none⟩)]] X fun e w' => ∃ A' c', e = .returned (.slice A' h c') ∧ w'.ownsRow X.heap.size 29 1 (.slice A' h c') h (prts Aw h) ∧ Below X.heap.size X w' from fun X b1 b2 h1 h2 => collect_any Aw h cw b1 b2 X (by omega) hh (by rw [← hM]; exact h1) h2)
  have UP := Lib.hid (show ∀ X A' c', Below w0.heap.size w0 X → (∃ B, X.ownsRow B 29 1 (.slice A' h c') h (prts Aw h)) → Calls Tryd.prog 54 #[.slice Ax 32 cx, .int .u32 (q : Int), .slice A' h c', .func (.func 53) #[] #[.pointer (some ⟨b + 1, 0, none⟩), .pointer (some ⟨b, 0, none⟩)]] X (Gives32 X (climbF sd ly tr 0 h q xs way)) from fun X A' c' hX ⟨B, ho⟩ => by
    have hX' := B0.out.trans (hX.mono B0.out.size)
    exact up16_any ly tr q h (b + 1) b hly htr hq hh Ae ce sd Ax cx xs A' c' way X (hk.bel hX') (S0.out.below hX S0.out.lt) (P0.out.below hX P0.out.lt) (he.below hX') (hx.below hX') (pts_mk hw hX' ho))
  rw [← hM]
  clear hw hM hcap hk he hx
  go_enter Tryd.func37, Tryd.ntmps37
  go_upto_region 2 with (fail)
  clear hw0
  (go_region_held3 (fun X => X.cell? ⟨b, 2, none⟩ = some (.int .u32 (q : Int)))
    (first
      | exact BP.out _ B3.out
      | exact BP.out _ B2.out
      | exact BP.out _ B1.out
      | exact BP.out _ BD.out.drew)
    (first
      | (go_at_call 56; ((with_reducible refine (CH.out _).mono ?_); rintro e w1 ⟨c1, c2, rfl, h1, h2, h3⟩; have H1 := Lib.hid h1; have H2 := Lib.hid h2; have B1 := Lib.hid (BD.out.drew.trans (h3.mono BD.out.size)); clear h1 h2 h3))
      | (go_at_call 55; ((with_reducible refine (CO.out _ _ _ H1.out H2.out).mono ?_); rintro e w2 ⟨A2, d2, rfl, o2, b2⟩; have O2 := Lib.hid o2; have B2 := Lib.hid (B1.out.trans (b2.mono B1.out.size)); clear o2 b2))
      | (go_at_call 54; ((with_reducible refine (UP.out _ _ _ B2.out ⟨_, O2.out⟩).mono ?_); rintro e w3 ⟨A3, c3, rfl, r3, b3⟩; have R3 := Lib.hid r3; have B3 := Lib.hid (B2.out.trans (b3.mono B2.out.size)); clear r3 b3))
      | fail))
  go_wp2
  go_ret
  exact ⟨A3, c3, rfl, R3.out, B0.out.trans (B3.out.mono B0.out.size)⟩
end Go.Proofs.YtkpfppiedadmbaaDoor.S16
