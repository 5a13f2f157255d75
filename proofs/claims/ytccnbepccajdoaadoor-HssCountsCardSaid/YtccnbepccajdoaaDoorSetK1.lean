/-
  What the landed package sets reads, and what find does. No statement is proved here.
-/
import Derived.Test.YtccnbepccajdoaaDoorSet
import Derived.Test.YtccnbepccajdoaaDoorLv
namespace Go.Proofs.YtccnbepccajdoaaDoor.S8
set_option linter.unusedSimpArgs false
set_option linter.unusedVariables false
open Go.RowKit S7

/-- The tables lie in their variables. -/
structure GS (w : World) : Prop where
  sm : ∀ i, i < 8 → w.cell? ⟨3, i, none⟩ = some (.int .i64 (([0, 32, 0, 24, 1, 32, 1, 24] : List Int).getD i 0)) ∧ 3 < w.heap.size
  wd : ∀ i, i < 4 → w.cell? ⟨2, i, none⟩ = some (.int .i64 (([1, 2, 4, 8] : List Int).getD i 0)) ∧ 2 < w.heap.size
  hs : ∀ i, i < 5 → w.cell? ⟨0, i, none⟩ = some (.int .i64 (([5, 10, 15, 20, 25] : List Int).getD i 0)) ∧ 0 < w.heap.size
  lo : ∀ i, i < 4 → w.cell? ⟨1, i, none⟩ = some (.int .i64 (([1, 2, 3, 4] : List Int).getD i 0)) ∧ 1 < w.heap.size
theorem keep_tab {w w' : World} {g n : Nat} {f : Nat → Value} (h : ∀ i, i < n → w.cell? ⟨g, i, none⟩ = some (f i) ∧ g < w.heap.size) (hb : Below w.heap.size w w') : ∀ i, i < n → w'.cell? ⟨g, i, none⟩ = some (f i) ∧ g < w'.heap.size :=
  fun i hi => ⟨(hb.cell (p := ⟨g, i, none⟩) (h i hi).2).trans (h i hi).1, Nat.lt_of_lt_of_le (h i hi).2 hb.size⟩
theorem GS.below {w w' : World} (h : GS w) (hb : Below w.heap.size w w') : GS w' := ⟨keep_tab h.sm hb, keep_tab h.wd hb, keep_tab h.hs hb, keep_tab h.lo hb⟩

theorem find_bad (F E C : Nat) (hE : E = 4 ∨ E = 5) (hF : F + 20 ≤ 4294967296) (hC : C < 4294967296) (hb : C < F ∨ F + 4 * E ≤ C) (w : World) :
    Calls Tryd.prog 45 #[.int .u32 (C : Int), .int .u32 (F : Int), .int .i64 (E : Int)] w fun e w' => e = .panicked [LV.wrg 4] ∧ Below w.heap.size w w' := by
  have HN := Lib.hid (fun X => LV.need_no 4 X)
  rcases hb with hb | hb
  · have q1 : decide ((F : Int) ≤ (C : Int)) = false := by simp; omega
    rcases hE with rfl | rfl
    all_goals
      go_enter Tryd.func45, Tryd.ntmps45
      go_wp2_with (go_at_call 16; ((with_reducible refine (HN.out _).mono ?_); rintro e w1 ⟨rfl, rfl⟩))
      exact ⟨rfl, rfl, (Below.refl _ _).alloc (Nat.le_refl _) _⟩
  · obtain ⟨i, hi⟩ : ∃ i : Nat, (C : Int) - (F : Int) = (i : Int) := ⟨C - F, by omega⟩
    have k0 : F ≤ C := by omega
    have ki : i < 4294967296 := by omega
    rcases hE with rfl | rfl
    · have q3 : decide ((i : Int) < 16) = false := by simp; omega
      clear hb
      go_enter Tryd.func45, Tryd.ntmps45
      go_wp2_with (go_at_call 16; ((with_reducible refine (HN.out _).mono ?_); rintro e w1 ⟨rfl, rfl⟩))
      exact ⟨rfl, rfl, (Below.refl _ _).alloc (Nat.le_refl _) _⟩
    · have q3 : decide ((i : Int) < 20) = false := by simp; omega
      clear hb
      go_enter Tryd.func45, Tryd.ntmps45
      go_wp2_with (go_at_call 16; ((with_reducible refine (HN.out _).mono ?_); rintro e w1 ⟨rfl, rfl⟩))
      exact ⟨rfl, rfl, (Below.refl _ _).alloc (Nat.le_refl _) _⟩
theorem tdiv_of {i E k : Nat} (h : i / E = k) : (i : Int).tdiv (E : Int) = (k : Int) ∧ (i : Int) / (E : Int) = (k : Int) := by
  subst h
  exact ⟨by rw [Int.tdiv_eq_ediv_of_nonneg (by omega)]; rfl, rfl⟩
theorem tmod_of {i E k : Nat} (h : i % E = k) : (i : Int).tmod (E : Int) = (k : Int) ∧ (i : Int) % (E : Int) = (k : Int) := by
  subst h
  exact ⟨by rw [Int.tmod_eq_emod_of_nonneg (by omega)]; rfl, rfl⟩
theorem results_cell_tmp {P : Program} {fn : Func} {p q : Tmp} {ty : TypeId} (h : fn.results = #[.cell p ty, .tmp q]) (tmps : Array Value) (w : World) (g : Nat) (t : TypeId) (cs : Array Value) (fr : Nat × Nat) (d : TypeDesc)
    (hp : tmps.getD p undef = .pointer (some ⟨g, 0, none⟩)) (hg : w.heap[g]? = some (.cells cs t fr))
    (hu : P.underlying ty = some d) (hd : (match d with | .struct _ | .array _ _ => true | _ => false) = true) (hi : (P.info? ty).map (·.size) = some cs.size) :
    (results fn tmps).run P w = .ok (.tuple #[.agg cs, tmps.getD q undef]) w := by
  have hp' : tmps[p]?.getD undef = .pointer (some ⟨g, 0, none⟩) := by simpa using hp
  simp [results, h, hp', asAddr, run_loadVar_row w g t ty cs fr d hg hu hd hi]
theorem Tryd.infoSum : (Tryd.prog.info? 86).map (·.size) = some 2 := by kernel_rfl
set_option maxHeartbeats 1000000 in
theorem find_ok (F E i : Nat) (hE : E = 4 ∨ E = 5) (hF : F + 20 ≤ 4294967296) (hi : i < 4 * E) (w : World) (h : GS w) :
    Calls Tryd.prog 45 #[.int .u32 ((F + i : Nat) : Int), .int .u32 (F : Int), .int .i64 (E : Int)] w fun e w' => e = .returned (.tuple #[.agg #[.int .i64 ((i / E / 2 : Nat) : Int), .int .i64 (szN (i / E) : Int)], .int .i64 ((i % E : Nat) : Int)]) ∧ Below w.heap.size w w' := by
  have HN := Lib.hid (fun X => LV.need_yes 4 X)
  obtain ⟨C, hC⟩ : ∃ C, C = F + i := ⟨_, rfl⟩
  have k1 : (C : Int) - (F : Int) = (i : Int) := by omega
  rw [← hC]
  have k0 : F ≤ C := by omega
  have k3 : C < 4294967296 := by rcases hE with rfl | rfl <;> omega
  clear hC
  obtain ⟨r, hr⟩ : ∃ r, i % E = r := ⟨_, rfl⟩
  obtain ⟨k, hk⟩ : ∃ k, i / E = k := ⟨_, rfl⟩
  have hk4 : k < 4 := by rw [← hk]; rcases hE with rfl | rfl <;> omega
  obtain ⟨d1, d2⟩ := tdiv_of hk
  obtain ⟨m1, m2⟩ := tmod_of hr
  rw [hr, hk]
  have c0 := (h.sm (2 * k) (by omega)).1
  have c1 := (h.sm (2 * k + 1) (by omega)).1
  have b0 := (h.sm 0 (by omega)).2
  have hr5 : r < 5 := by rw [← hr]; rcases hE with rfl | rfl <;> omega
  clear h hk hr
  obtain rfl | rfl | rfl | rfl : k = 0 ∨ k = 1 ∨ k = 2 ∨ k = 3 := by omega
  all_goals
    simp at c0 c1 d1 d2 m1 m2
    rcases hE with rfl | rfl
    · have q3 : decide ((i : Int) < 16) = true := by (simp; omega)
      simp at d1 d2 m1 m2
      go_enter Tryd.func45, Tryd.ntmps45
      go_wp2_with (go_at_call 16; ((with_reducible refine (HN.out _).mono ?_); rintro e w1 ⟨rfl, rfl⟩))
      go_region
      go_wp2
      refine bodyPost_ret (results_cell_tmp rfl _ _ w.heap.size _ _ _ _ rfl (heap_alloc_new w _) Tryd.underlying86 rfl Tryd.infoSum) rfl ?_
      exact ⟨rfl, ((Below.refl _ _).alloc (Nat.le_refl _) _).drew⟩
    · have q3 : decide ((i : Int) < 20) = true := by (simp; omega)
      simp at d1 d2 m1 m2
      go_enter Tryd.func45, Tryd.ntmps45
      go_wp2_with (go_at_call 16; ((with_reducible refine (HN.out _).mono ?_); rintro e w1 ⟨rfl, rfl⟩))
      go_region
      go_wp2
      refine bodyPost_ret (results_cell_tmp rfl _ _ w.heap.size _ _ _ _ rfl (heap_alloc_new w _) Tryd.underlying86 rfl Tryd.infoSum) rfl ?_
      exact ⟨rfl, ((Below.refl _ _).alloc (Nat.le_refl _) _).drew⟩
end Go.Proofs.YtccnbepccajdoaaDoor.S8
