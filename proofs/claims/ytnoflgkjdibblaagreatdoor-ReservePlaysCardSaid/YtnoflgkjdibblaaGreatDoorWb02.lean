/-
  Texts put together: Turn. No statement is proved here.
-/
import Derived.Test.YtnoflgkjdibblaaGreatDoorWb01
import Derived.Deep.RegionWith
import Derived.Deep.RegionHeld3
import Derived.Deep.QuietTactic
import Derived.BigQuiet
import Derived.BigRegion
import Derived.StillTailTactics

/-
  What the calls of package sha2 do with one block: words, Turn.
-/
namespace Go.Proofs.YtnoflgkjdibblaaGreatDoor.S2
set_option linter.unusedSimpArgs false
set_option linter.unusedVariables false
set_option maxRecDepth 1024
open Go.RowKit

/-- Words as values. -/
def uv (ws : List UInt32) : List Value := ws.map fun x => Value.int .u32 (x.toNat : Int)
def uA (ws : List UInt32) : Array Value := (uv ws).toArray
theorem uA_get (ws : List UInt32) (i : Nat) (h : i < ws.length) : (uA ws)[i]? = some (.int .u32 ((ws.getD i 0).toNat : Int)) := by
  simp [uA, uv, h, List.getD]
theorem uA_put (ws : List UInt32) (i : Nat) (x : UInt32) : (uA ws).setIfInBounds i (.int .u32 (x.toNat : Int)) = uA (ws.set i x) := by
  simp [uA, uv, List.map_set]
theorem uA_size (ws : List UInt32) : (uA ws).size = ws.length := by simp [uA, uv]
theorem uA_one (ws : List UInt32) : (uA ws).all (·.oneCell') = true := by
  simp [uA, uv, Value.oneCell']
theorem fill_next (ws : List UInt32) (k : Nat) (x : UInt32) (hk : ws.length = k) (h : k < 64) : (ws ++ List.replicate (64 - k) 0).set k x = (ws ++ [x]) ++ List.replicate (64 - (k + 1)) 0 := by
  obtain ⟨q, hq⟩ : ∃ q, 64 - k = q + 1 := ⟨64 - k - 1, by omega⟩
  rw [hq, show 64 - (k + 1) = q by omega, List.set_append_right _ _ (by omega), hk, Nat.sub_self, List.replicate_succ, List.set_cons_zero, List.append_assoc]
  rfl
theorem w4_val (xs : List UInt8) (k : Nat) : IntKind.u32.wrap ((getL ((xs.drop (4 * k)).take 4) : Nat) : Int) = ((w4 xs k).toNat : Int) := by
  rw [IntKind.wrap_u32']; simp [w4]

/-- 'a[l:h]' of an array of bytes in memory, l below its end. -/
theorem run_cutArr (T : TypeId) (N b o : Nat) (l h : Int) (l' h' : Nat) (hT : Tryz.prog.underlying T = some (.array N 5)) (hl : l = l') (hh : h = h') (h1 : l' ≤ h') (h2 : h' ≤ N) (h3 : l' < N) (W : World) :
    (Instr.sliceAt T (.pointer (some ⟨b, o, none⟩)) (some (.int .i64 l)) (some (.int .i64 h)) none).run Tryz.prog W = .ok (.slice (some ⟨b, o + l', none⟩) (h' - l') (N - l')) W := by
  have ea : Tryz.prog.arrayLen T = N := by simp [Program.arrayLen, hT]
  have ee : Tryz.prog.elem T = 5 := by simp [Program.elem, hT]
  have hs : (sizeOf 5).run Tryz.prog W = .ok 1 W := by kernel_rfl
  subst hl hh
  rw [run_sliceAt_array_lh W T _ (by rw [ea, ee]; exact hT) .i64 .i64 l' h' (by omega) (by omega) (by rw [ea]; omega), ee, hs]
  simp only [Result.andThen, slicedAt, ea, Int.toNat_natCast, Nat.mul_one]
  rw [if_neg (by omega)]
  simp only [Addr.add]
  split <;> simp_all

theorem sub_i64 (j c : Nat) (h : c ≤ j) (hj : j ≤ 4294967296) : IntKind.i64.wrap ((j : Int) - (c : Int)) = (j : Int) - (c : Int) ∧ ((j : Int) - (c : Int)).toNat = j - c := by
  rw [IntKind.wrap_i64]; omega
theorem still_tail {P : Program} {w : World} {id : Nat} {Q : Exit → Act → World → Prop} {a : Act} {l : List Oper} (n : Nat) (hm : P.follows .mixedOrders = true) (hB : Region.lexTailB .any l.toArray n = true)
    (h : ∀ wd : World, wd = w.drew → wpStill P l.toArray wd (fun a' => wpList P l.toArray Q (l.drop n) a' wd) (l.take n) a) : (Code.region id l.toArray true).wp P Q a w :=
  wp_region_still_tail n hm hB (h _ rfl)
theorem ext_next (ws : List UInt32) (j : Nat) (h : 16 ≤ j) : ext ws (j + 1 - 16) = ext ws (j - 16) ++ [ad (ad (ad (smL ((ext ws (j - 16)).getD (j - 2) 0)) ((ext ws (j - 16)).getD (j - 7) 0)) (smE ((ext ws (j - 16)).getD (j - 15) 0))) ((ext ws (j - 16)).getD (j - 16) 0)] := by
  obtain ⟨k, rfl⟩ : ∃ k, j = 16 + k := ⟨j - 16, by omega⟩
  rw [show 16 + k + 1 - 16 = k + 1 by omega, show 16 + k - 16 = k by omega, show 16 + k - 2 = 14 + k by omega, show 16 + k - 7 = 9 + k by omega, show 16 + k - 15 = 1 + k by omega, ext]
theorem getD_left (E : List UInt32) (m i : Nat) (h : i < E.length) : (E ++ List.replicate m 0).getD i 0 = E.getD i 0 := by simp [List.getD, List.getElem?_append_left h]

attribute [local go_sem] u32_add
set_option maxHeartbeats 1000000 in
theorem words_any (xs : List UInt8) (w : World) (hx : xs.length = 64) :
    Calls Tryz.prog 130 #[.agg (bv xs).toArray] w fun e w' => e = .returned (.agg (uA (wds xs))) ∧ Below w.heap.size w w' := by
  have HX := Lib.hid hx
  clear hx
  go_enter Tryz.func130, Tryz.ntmps130
  go_wp2
  go_loopw [4, 5, 6, 8] (fun _ _ _ i wr => ∃ k : Nat, k ≤ 16 ∧ i = .int .i64 (k : Int) ∧ Bk wr w.heap.size 104 (bv xs).toArray ∧ Bk wr (w.heap.size + 1) 181 (uA (List.replicate 64 0)) ∧
      Bk wr (w.heap.size + 1 + 1) 181 (uA (first16 xs k ++ List.replicate (64 - k) 0)) ∧ Below w.heap.size w wr)
    (fun _ _ _ i _ => 16 - (intOf i).toNat)
  case atStart => exact ⟨0, by omega, rfl, ((Bk.newAt _ _ _ _ rfl).alloc _).alloc _, (Bk.newAt _ _ _ _ (by simp)).alloc _, Bk.newAt _ _ _ _ (by simp), (((Below.refl _ _).alloc (Nat.le_refl _) _).alloc (by simp) _).alloc (by simp; omega) _⟩
  case round =>
    obtain ⟨k, hk, rfl, b1, b2, b3, hbel⟩ := hrel
    by_cases hlt : k < 16
    · have c3 := (b3.cell k).trans (uA_get _ k (by simp [first16_length]; omega))
      have f3 := b3.frozen k
      have hr : Rd wr (some ⟨w.heap.size, 4 * k, none⟩) (4 * (k + 1) - 4 * k) (64 - 4 * k) ((xs.drop (4 * k)).take 4) := by
        have hx := HX.out
        refine Rd.of_bk b1 (by simp; omega) (by omega) (by simp only [maxLen]; omega) fun j hj => ?_
        rw [bv_getElem? _ _ (by omega)]
        have h4 : j < 4 := by omega
        simp [List.getD, List.getElem?_take, List.getElem?_drop, h4]
      have hg := w4_val xs k
      have HN := Lib.hid (fill_next (first16 xs k) k (w4 xs k) (first16_length _ _) (by omega))
      have hsl := run_cutArr 104 64 w.heap.size 0 (4 * (k : Int)) (4 * ((k : Int) + 1)) (4 * k) (4 * (k + 1)) Tryz.underlying104 (by omega) (by omega) (by omega) (by omega) (by omega)
      go_wp2_with (go_at_call 109; ((with_reducible refine (get_any _ _ _ _ _ (by omega) hr).mono ?_); rintro e w' ⟨rfl, rfl⟩))
      go_roundw
      case rel => exact ⟨k + 1, by omega, by go_num, b1.far (by simp; omega) _, b2.far (by simp) _, by have := b3.put k (.int .u32 ((w4 xs k).toNat : Int)); rw [uA_put, HN.out] at this; exact this, hbel.setCell (by simp; omega) _⟩
      case measure => simp [intOf]; omega
    · have b3 : Bk wr (w.heap.size + 1 + 1) 181 (uA (first16 xs 16 ++ List.replicate (64 - 16) 0)) := by
        obtain rfl : k = 16 := by omega
        exact b3
      go_wp2
      go_loopw [7] (fun i wr => ∃ j : Nat, 16 ≤ j ∧ j ≤ 64 ∧ i = .int .i64 (j : Int) ∧ Bk wr w.heap.size 104 (bv xs).toArray ∧ Bk wr (w.heap.size + 1) 181 (uA (List.replicate 64 0)) ∧
          Bk wr (w.heap.size + 1 + 1) 181 (uA (ext (first16 xs 16) (j - 16) ++ List.replicate (64 - j) 0)) ∧ Below w.heap.size w wr)
        (fun i _ => 64 - (intOf i).toNat)
      case atStart => exact ⟨16, by omega, by omega, rfl, b1, b2, b3, hbel⟩
      case round =>
        obtain ⟨j, hj1, hj2, rfl, b1, b2, b3, hbel⟩ := hrel
        by_cases hlt : j < 64
        · obtain ⟨E, hE⟩ : ∃ E, E = ext (first16 xs 16) (j - 16) := ⟨_, rfl⟩
          have EL : E.length = j := by rw [hE, ext_length, first16_length]; omega
          have HX1 := Lib.hid (ext_next (first16 xs 16) j hj1)
          rw [← hE] at HX1 b3
          have HN := Lib.hid (fill_next E j (ad (ad (ad (smL (E.getD (j - 2) 0)) (E.getD (j - 7) 0)) (smE (E.getD (j - 15) 0))) (E.getD (j - 16) 0)) EL (by omega))
          have i1 : (16 : Int) ≤ (j : Int) := by omega
          have i2 : (j : Int) < 64 := by omega
          have j1 : (0 : Int) ≤ (j : Int) - 2 := by omega
          have j2 : (0 : Int) ≤ (j : Int) - 7 := by omega
          have j3 : (0 : Int) ≤ (j : Int) - 15 := by omega
          have j4 : (0 : Int) ≤ (j : Int) - 16 := by omega
          have m1 : (2 : Int) ≤ (j : Int) := by omega
          have m2 : (7 : Int) ≤ (j : Int) := by omega
          have m3 : (15 : Int) ≤ (j : Int) := by omega
          have k1 : (j : Int) - 2 < 64 := by omega
          have k2 : (j : Int) - 7 < 64 := by omega
          have k3 : (j : Int) - 15 < 64 := by omega
          have k4 : (j : Int) - 16 < 64 := by omega
          have cs : ∀ i, i < 64 → i < j → wr.cell? ⟨w.heap.size + 1 + 1, i, none⟩ = some (.int .u32 ((E.getD i 0).toNat : Int)) := fun i hi hij => by
            rw [b3.cell, uA_get _ _ (by simp; omega), getD_left _ _ _ (by omega)]
          have c0 := (b3.cell j).trans (uA_get _ j (by simp; omega))
          have c1 := cs (j - 2) (by omega) (by omega)
          have c2 := cs (j - 7) (by omega) (by omega)
          have c3 := cs (j - 15) (by omega) (by omega)
          have c4 := cs (j - 16) (by omega) (by omega)
          obtain ⟨w1, t1⟩ := sub_i64 j 2 (by omega) (by omega)
          obtain ⟨w2, t2⟩ := sub_i64 j 7 (by omega) (by omega)
          obtain ⟨w3, t3⟩ := sub_i64 j 15 (by omega) (by omega)
          obtain ⟨w4, t4⟩ := sub_i64 j 16 (by omega) (by omega)
          simp only [Int.cast_ofNat_Int] at w1 t1 w2 t2 w3 t3 w4 t4
          clear cs hE EL
          go_wp2
          refine still_tail 23 (by kernel_rfl) (by kernel_rfl) ?_
          intro wd hwd
          have b1 : Bk wd w.heap.size 104 (bv xs).toArray := by rw [hwd]; exact b1.drew
          have b2 : Bk wd (w.heap.size + 1) 181 (uA (List.replicate 64 0)) := by rw [hwd]; exact b2.drew
          have b3 : Bk wd (w.heap.size + 1 + 1) 181 (uA (E ++ List.replicate (64 - j) 0)) := by rw [hwd]; exact b3.drew
          have hbel : Below w.heap.size w wd := by rw [hwd]; exact hbel.drew
          have c0 := (show wd.cell? _ = wr.cell? _ by rw [hwd]; rfl).trans c0
          have c1 := (show wd.cell? _ = wr.cell? _ by rw [hwd]; rfl).trans c1
          have c2 := (show wd.cell? _ = wr.cell? _ by rw [hwd]; rfl).trans c2
          have c3 := (show wd.cell? _ = wr.cell? _ by rw [hwd]; rfl).trans c3
          have c4 := (show wd.cell? _ = wr.cell? _ by rw [hwd]; rfl).trans c4
          have f0 := b3.frozen j
          clear hwd
          simp only [List.take_succ_cons, List.take_zero, List.drop_succ_cons, List.drop_zero]
          repeat still_step
          still_call ((mixLate_any _ _).mono fun _ _ h => ⟨h.1, h.2.symm⟩)
          repeat still_step
          still_call ((mixEarly_any _ _).mono fun _ _ h => ⟨h.1, h.2.symm⟩)
          repeat still_step
          refine wpStill_nil ?_
          go_wp2
          go_roundw
          case rel => exact ⟨j + 1, by omega, by omega, by go_num, b1.far (by simp; omega) _, b2.far (by simp) _, by
            rw [HX1.out, ← HN.out, ← uA_put]; exact b3.put j _, hbel.setCell (by simp; omega) _⟩
          case measure => simp [intOf]; omega
        · obtain rfl : j = 64 := by omega
          have b3 : Bk wr (w.heap.size + 1 + 1) 181 (uA (wds xs)) := by simpa [wds] using b3
          have hw64 : (uA (wds xs)).size = 64 := by rw [uA_size, wds_length]
          have HS := Lib.hid hw64
          clear hw64
          go_wp2_with (first
            | (refine wpList_load_row rfl 181 _ rfl (w.heap.size + 1 + 1) rfl 181 (uA (wds xs)) (0, 0) _ b3 Tryz.underlying181 rfl (by rw [HS.out]; kernel_rfl) ?_)
            | (refine wpList_store_row rfl 181 _ _ rfl (w.heap.size + 1) (uA (wds xs)) rfl rfl 181 (uA (List.replicate 64 0)) b2 (by rw [HS.out]; kernel_rfl) (by rw [HS.out]; rfl) (uA_one _) ?_))
          refine bodyPost_ret (results_cell_row rfl _ _ (w.heap.size + 1) 181 (uA (wds xs)) (0, 0) _ rfl (b2.row _) Tryz.underlying181 rfl (by rw [HS.out]; kernel_rfl)) rfl ⟨rfl, below_setRow hbel (by simp) _⟩
end Go.Proofs.YtnoflgkjdibblaaGreatDoor.S2
