/-
  Texts put together: SlL3, Sl11, SlO. No statement is proved here.
-/
import Derived.Test.YtdbamdbdogdpjaaGreatDoorWa22
import Derived.Test.YtdbamdbdogdpjaaGreatDoorWa06
import Derived.Test.YtdbamdbdogdpjaaGreatDoorWa21
import Derived.Test.YtdbamdbdogdpjaaGreatDoorWa15
import Derived.Test.YtdbamdbdogdpjaaGreatDoorWa05

/-
  The walk of layer 20's fourth statement (SlotsBlank), over the contracts. No statement is proved here. (Written by gensll3.py.)
-/
namespace Go.Proofs.YtdbamdbdogdpjaaGreatDoor.S20
set_option linter.unusedSimpArgs false
set_option linter.unusedVariables false
set_option maxRecDepth 4096
open Go.RowKit S19

/-- A sector of no byte 0. -/
def fillS (a : List UInt8) (n : Nat) : List UInt8 := (List.range n).map fun i => UInt8.ofNat (1 + (a.getD (i % a.length) 0).toNat % 255)
theorem fillS_len (a : List UInt8) (n : Nat) : (fillS a n).length = n := by simp [fillS]
theorem fillS_step (a : List UInt8) (n k : Nat) (hk : k < n) : ((fillS a n).take k ++ List.replicate (n - k) 0).set k (UInt8.ofNat (1 + (a.getD (k % a.length) 0).toNat % 255)) = (fillS a n).take (k + 1) ++ List.replicate (n - (k + 1)) 0 := by
  have hl := fillS_len a n
  rw [List.set_append_right _ _ (by simp [hl]; omega)]
  have e1 : k - ((fillS a n).take k).length = 0 := by simp [hl]; omega
  rw [e1, show n - k = (n - (k + 1)) + 1 by omega, List.replicate_succ, List.set_cons_zero, List.take_add_one, List.append_assoc]
  congr 1
  have : (fillS a n)[k]? = some (UInt8.ofNat (1 + (a.getD (k % a.length) 0).toNat % 255)) := by simp [fillS, hk]
  rw [this]
  rfl
theorem one_byte (v : Nat) : (UInt8.ofNat (1 + v % 255)).toNat = 1 + v % 255 := by
  rw [UInt8.toNat_ofNat']
  exact Nat.mod_eq_of_lt (by have := Nat.mod_lt v (show 0 < 255 by omega); omega)
theorem fillS_pos (a : List UInt8) (n : Nat) : ∀ u ∈ fillS a n, 1 ≤ u.toNat := by
  intro u hu
  obtain ⟨i, _, rfl⟩ := List.mem_map.1 hu
  rw [one_byte]
  omega
def Z64' : List UInt8 := List.replicate 64 0
theorem not_zeros {x : List UInt8} (hx : ∀ u ∈ x, 1 ≤ u.toNat) (hl : 0 < x.length) {n : Nat} : x ≠ List.replicate n 0 := by
  intro e
  have h0 : (0 : UInt8) ∈ x := by
    rw [e]
    refine List.mem_replicate.2 ⟨?_, rfl⟩
    rintro rfl
    rw [e] at hl
    simp at hl
  have := hx 0 h0
  simp at this
theorem head_zero (x : List UInt8) (n : Nat) : whole (Z64' ++ x) n = (0, []) := by
  unfold whole
  refine if_neg fun h => h.1 ?_
  unfold numOf Z64'
  rw [List.take_append_of_le_length (by simp), List.take_replicate, getL_zero]
theorem four_pos {l : List UInt8} (hl : l.length = 4) (hp : ∀ u ∈ l, 1 ≤ u.toNat) : 16777216 ≤ getL l := by
  match l, hl with
  | u :: r, hl =>
    have hr : r.length = 3 := by simpa using hl
    rw [getL_cons, hr]
    have := hp u (by simp)
    have e : (256 : Nat) ^ 3 = 16777216 := by decide
    rw [e]
    omega
theorem pos_not (y z : List UInt8) (hy : ∀ u ∈ y, 1 ≤ u.toNat) (hl : y.length = 64) : whole (y ++ z) 2 = (0, []) := by
  unfold whole
  refine if_neg fun h => ?_
  have h2 := h.2.1
  have e : ((y ++ z).drop 8).take 4 = (y.drop 8).take 4 := by
    rw [List.drop_append_of_le_length (by omega), List.take_append_of_le_length (by simp; omega)]
  have h4 := four_pos (l := (y.drop 8).take 4) (by simp; omega) (fun u hu => hy u (List.mem_of_mem_drop (List.mem_of_mem_take hu)))
  unfold cntOf at h2
  rw [e, room_nat (n := 2) (by omega) (by omega)] at h2
  omega
theorem blank_facts (x y : List UInt8) (hx : ∀ u ∈ x, 1 ≤ u.toNat) (hy : ∀ u ∈ y, 1 ≤ u.toNat) (lx : x.length = 64) (ly : y.length = 64) :
    (Dk.new 4).writeC 1 x = 0 ∧ ((Dk.new 4).write 1 x).writeC 2 y = 0 ∧ (Sl.new 0 2).loadC ((Dk.new 4).write 1 x) = 11 ∧ (Sl.new 0 2).load ((Dk.new 4).write 1 x) = Sl.new 0 2 ∧
    (Sl.new 0 2).loadC (((Dk.new 4).write 1 x).write 2 y) = 8 ∧ (Sl.new 0 2).load (((Dk.new 4).write 1 x).write 2 y) = Sl.new 0 2 := by
  have hC := Calm.new 4
  obtain ⟨w1, d1⟩ := hC.write (i := 1) (b := x) (by simp [Dk.new]) lx
  have hC1 : Calm { Dk.new 4 with cnt := (Dk.new 4).cnt + 1, pend := (Dk.new 4).pend ++ [(1, x)] } := ⟨hC.off, hC.stop, hC.fails⟩
  obtain ⟨w2, d2⟩ := hC1.write (i := 2) (b := y) (by simp [Dk.new]) ly
  have d1' : (Dk.new 4).write 1 x = { Dk.new 4 with cnt := (Dk.new 4).cnt + 1, pend := (Dk.new 4).pend ++ [(1, x)] } := d1
  rw [d1']
  have d2' := d2
  obtain ⟨D1, hD1⟩ : ∃ D1, D1 = ({ Dk.new 4 with cnt := (Dk.new 4).cnt + 1, pend := (Dk.new 4).pend ++ [(1, x)] } : Dk) := ⟨_, rfl⟩
  rw [← hD1] at w2 d2 hC1 ⊢
  obtain ⟨D2, hD2⟩ : ∃ D2, D2 = D1.write 2 y := ⟨_, rfl⟩
  have hD2' : D2 = { D1 with cnt := D1.cnt + 1, pend := D1.pend ++ [(2, y)] } := hD2.trans d2
  rw [← hD2]
  have hC2 : Calm D2 := by rw [hD2']; exact ⟨hC1.off, hC1.stop, hC1.fails⟩
  have a10 : (Sl.new 0 2).area D1 0 = Z64' ++ x := by rw [hD1]; simp [Sl.area, Sl.new, Sl.areaK, Dk.atS, Dk.new, Dk.lastOf, Z64']
  have a11 : (Sl.new 0 2).area D1 1 = List.replicate 128 0 := by rw [hD1]; simp [Sl.area, Sl.new, Sl.areaK, Dk.atS, Dk.new, Dk.lastOf]
  have a20 : (Sl.new 0 2).area D2 0 = Z64' ++ x := by rw [hD2', hD1]; simp [Sl.area, Sl.new, Sl.areaK, Dk.atS, Dk.new, Dk.lastOf, Z64']
  have a21 : (Sl.new 0 2).area D2 1 = y ++ Z64' := by rw [hD2', hD1]; simp [Sl.area, Sl.new, Sl.areaK, Dk.atS, Dk.new, Dk.lastOf, Z64']
  have s1 : (Sl.new 0 2).seen D1 = (-1, 0, []) := by
    rw [seen_of (a0 := (0, [])) (a1 := (0, [])) (by rw [a10]; exact head_zero _ _) (by rw [a11]; exact whole_zero _ _)]
    rfl
  have s2 : (Sl.new 0 2).seen D2 = (-1, 0, []) := by
    rw [seen_of (a0 := (0, [])) (a1 := (0, [])) (by rw [a20]; exact head_zero _ _) (by rw [a21]; exact pos_not _ _ hy ly)]
    rfl
  have o1 : ¬ D1.off = true := by rw [hC1.off]; simp
  have o2 : ¬ D2.off = true := by rw [hC2.off]; simp
  have b20 : blank (Z64' ++ x) (Sl.new 0 2).n = false := by
    refine decide_eq_false fun e => ?_
    have e2 : x = (List.replicate (64 * 2) (0 : UInt8)).drop 64 := by
      have := congrArg (List.drop 64) e
      rw [List.drop_left' (by simp [Z64'])] at this
      exact this
    rw [List.drop_replicate] at e2
    exact not_zeros hx (by omega) e2
  have b21 : blank (y ++ Z64') (Sl.new 0 2).n = false := by
    refine decide_eq_false fun e => ?_
    have e2 : y = (List.replicate (64 * 2) (0 : UInt8)).take 64 := by
      have := congrArg (List.take 64) e
      rw [List.take_left' ly] at this
      exact this
    rw [List.take_replicate] at e2
    exact not_zeros hy (by omega) e2
  refine ⟨w1, w2, ?_, ?_, ?_, ?_⟩
  · rw [Sl.loadC, if_neg o1, s1, if_pos (by decide), if_pos (by rw [a11]; simp [blank, Sl.new])]
  · rw [Sl.load, if_neg o1, s1]; rfl
  · rw [Sl.loadC, if_neg o2, s2, if_pos (by decide), a20, a21, b20, b21]; rfl
  · rw [Sl.load, if_neg o2, s2]; rfl
theorem rep64 : (madeCells (Value.int .u8 0).cells (64 * 1)).toList = bv (List.replicate 64 0) := bv_zero 64
theorem own_setOther {w : World} {B e size n g i : Nat} {v u : Value} {xs : List Value} (h : w.ownsRow B e size v n xs) (hne : v.ownBlock ≠ some g) : (w.setCell ⟨g, i, none⟩ u).ownsRow B e size v n xs :=
  own_keepH h fun b hb _ => Below.heap_setCell w ⟨g, i, none⟩ u b (by rintro rfl; exact hne hb)
theorem wLen {w : World} {A : Option Addr} {n c : Nat} {xs : List UInt8} (h : Rd w A n c xs) (hn : 100 < n) : (decide ((100 : Int) < (n : Int))) = true := by simp; omega
end Go.Proofs.YtdbamdbdogdpjaaGreatDoor.S20

/-
  The landed disk and slots beside the document's own; a sector's bytes cut or filled; whether a step is too great. No statement is proved here.
-/
namespace Go.Proofs.YtdbamdbdogdpjaaGreatDoor.S20
set_option linter.unusedSimpArgs false
set_option linter.unusedVariables false
set_option maxRecDepth 4096
open Go.RowKit S19

theorem writes_cnt (at_ : Nat) (xs : List UInt8) : ∀ (k j : Nat) (D : Dk), (Sl.writes at_ xs k j D).2.cnt ≤ D.cnt + k
  | 0, j, D => Nat.le_refl _
  | k + 1, j, D => by
    unfold Sl.writes
    have hw := Dk.write_cnt D ((at_ + j : Nat) : Int) (Sl.row xs j)
    split
    · have := writes_cnt at_ xs k (j + 1) (D.write ((at_ + j : Nat) : Int) (Sl.row xs j))
      omega
    · show (D.write _ _).cnt ≤ _
      omega
theorem saveD_cnt (Z : Sl) (D : Dk) (b : List UInt8) : (Z.saveD D b).cnt ≤ D.cnt + Z.n + 1 := by
  unfold Sl.saveD
  split
  · omega
  · have h := writes_cnt (Z.first + Z.goes * Z.n) (recB Z.next b Z.n) Z.n 0 D
    split
    · have h2 := Dk.flush_cnt (Z.written D b).2
      have h3 : (Z.written D b).2.cnt ≤ D.cnt + Z.n := h
      omega
    · have h3 : (Z.written D b).2.cnt ≤ D.cnt + Z.n := h
      omega
/-- The document's slots are so in any world where their blocks, and those below N, are as they were. -/
theorem Qs.keep {N : Nat} {w w' : World} {h q k : Nat} {L : Value} {D : Dk} {Z : Sl} {G S T : Nat → Prop} (t : Qs N w h q L k D Z G S T) (hs : w.heap.size ≤ w'.heap.size) (hk : ∀ b, (b < N ∨ Or3 G S T b) → b < w.heap.size → w'.heap[b]? = w.heap[b]?) : Qs N w' h q L k D Z G S T :=
  ⟨t.rk.keep hs fun b hb hl => hk b (hb.imp id .inl) hl, t.rz.keep hs fun b e => hk b (.inr (.inr (.inl e))) (t.rz.lt b e).2, t.ld.keep hs fun b e => hk b (.inr (.inr (.inr e))) (t.ld.lt b e).2, t.zo, t.gs, t.gt, t.st⟩
theorem Lz.keep {M : DC} {C : SlC M} {N : Nat} {w w' : World} {g s : Nat} {D : Dk} {Z : Sl} {F S : Nat → Prop} (t : Lz M C N w g s D Z F S) (hs : w.heap.size ≤ w'.heap.size) (hk : ∀ b, (b < N ∨ Or2 F S b) → b < w.heap.size → w'.heap[b]? = w.heap[b]?) : Lz M C N w' g s D Z F S :=
  ⟨M.keep t.is hs fun b hb hl => hk b (hb.imp id .inl) hl, C.keep t.sl hs fun b hb hl => hk b (hb.imp id .inr) hl, t.dj, t.zo⟩
/-- The landed disk and slots, and the document's own, apart. -/
structure Bo (M : DC) (C : SlC M) (N : Nat) (w : World) (g s h q : Nat) (L : Value) (k : Nat) (D : Dk) (Z : Sl) (D2 : Dk) (Z2 : Sl) (F S G R T : Nat → Prop) : Prop where
  lz : Lz M C N w g s D Z F S
  qs : Qs N w h q L k D2 Z2 G R T
  ap : ∀ b, Or2 F S b → ¬ Or3 G R T b
section
variable {M : DC} {C : SlC M} {N : Nat} {w w' : World} {g s s' h q q' k k' : Nat} {L L' : Value} {D D' D2 D2' : Dk} {Z Z' Z2 Z2' : Sl} {F S G R T F' S' G' R' T' : Nat → Prop}
theorem Bo.left (t : Bo M C N w g s h q L k D Z D2 Z2 F S G R T) (l : Lz M C N w' g s' D' Z' F' S') (hs : ∀ b, Or2 F' S' b → Or2 F S b ∨ w.heap.size ≤ b) (m : Mv N (Or2 F S) w w') : Bo M C N w' g s' h q L k D' Z' D2 Z2 F' S' G R T := by
  refine ⟨l, t.qs.keep m.size fun b hb hlt => m.same b hlt fun hO => ?_, fun b h1 h2 => ?_⟩
  · rcases hb with e | e
    · have := (t.lz.lt b hO).1; omega
    · exact t.ap b hO e
  · rcases hs b h1 with e | e
    · exact t.ap b e h2
    · have := (t.qs.lt b h2).2; omega
theorem Bo.right (t : Bo M C N w g s h q L k D Z D2 Z2 F S G R T) (l : Qs N w' h q' L' k' D2' Z2' G' R' T') (hs : ∀ b, Or3 G' R' T' b → Or3 G R T b ∨ w.heap.size ≤ b) (m : Mv N (Or3 G R T) w w') : Bo M C N w' g s h q' L' k' D Z D2' Z2' F S G' R' T' := by
  refine ⟨t.lz.keep m.size fun b hb hlt => m.same b hlt fun hO => ?_, l, fun b h1 h2 => ?_⟩
  · rcases hb with e | e
    · have := (t.qs.lt b hO).1; omega
    · exact t.ap b e hO
  · rcases hs b h2 with e | e
    · exact t.ap b h1 e
    · have := (t.lz.lt b h1).2; omega
theorem Bo.grow (t : Bo M C N w g s h q L k D Z D2 Z2 F S G R T) (hb : Below w.heap.size w w') : Bo M C N w' g s h q L k D Z D2 Z2 F S G R T := ⟨t.lz.grow hb, t.qs.grow hb, t.ap⟩
end
/-- Bytes cut, or filled, to a sector. -/
def fitL (b : List UInt8) : List UInt8 := (List.range 64).map fun i => b.getD i 0
theorem fitL_len (b : List UInt8) : (fitL b).length = 64 := by simp [fitL]
theorem fitL_step (b : List UInt8) (k : Nat) (hk : k < 64) : ((fitL b).take k ++ List.replicate (64 - k) 0).set k (b.getD k 0) = (fitL b).take (k + 1) ++ List.replicate (64 - (k + 1)) 0 := by
  have hl := fitL_len b
  rw [List.set_append_right _ _ (by simp [hl]; omega)]
  have e1 : k - ((fitL b).take k).length = 0 := by simp [hl]; omega
  rw [e1, show 64 - k = (64 - (k + 1)) + 1 by omega, List.replicate_succ, List.set_cons_zero, List.take_add_one, List.append_assoc]
  congr 1
  have : (fitL b)[k]? = some (b.getD k 0) := by simp [fitL, hk]
  rw [this]
  rfl
theorem fitL_end (b : List UInt8) (k : Nat) (hk : k ≤ 64) (h : k = 64 ∨ b.length ≤ k) : (fitL b).take k ++ List.replicate (64 - k) 0 = fitL b := by
  rcases h with rfl | h
  · rw [List.take_of_length_le (by rw [fitL_len]; omega)]; simp
  · refine List.ext_getElem? fun i => ?_
    rcases Nat.lt_or_ge i k with h1 | h1
    · rw [List.getElem?_append_left (by simp [fitL_len]; omega), List.getElem?_take_of_lt h1]
    · rcases Nat.lt_or_ge i 64 with h2 | h2
      · rw [List.getElem?_append_right (by simp [fitL_len]; omega), List.getElem?_replicate, if_pos (by simp [fitL_len]; omega)]
        have : b.getD i 0 = 0 := by rw [List.getD_eq_getElem?_getD, List.getElem?_eq_none (by omega)]; rfl
        simp [fitL, h2]
        simpa [List.getD_eq_getElem?_getD] using this.symm
      · rw [List.getElem?_eq_none (by simp [fitL_len]; omega), List.getElem?_eq_none (by rw [fitL_len]; omega)]
set_option maxHeartbeats 2000000 in
theorem fit_any (A : Option Addr) (n c : Nat) (b : List UInt8) (w : World) (hr : Rd w A n c b) : Calls Tryz.prog 19 #[.slice A n c] w (New w.heap.size w (fitL b)) := by
  obtain ⟨i0, hi, hz0, hz1, hz2⟩ := info_parts Tryz.infoU8
  have HR := Lib.hid hr
  have HLN := Lib.hid hr.len
  clear hr
  go_enter Tryz.func19, Tryz.ntmps19
  go_wp2_with (at_make; refine wpList_make_full _ rfl _ _ 35 rfl w.heap.size 5 i0 (.int .u8 0) 1 Tryz.underlying35 hi hz0 hz1 _ _ _ _ 64 rfl rfl rfl rfl (by rw [hz2]; decide) (by unfold maxLen; decide) (Nat.le_refl _) ?_)
  intro w0 hown0 hgrow0
  rw [bv_zero] at hown0
  have hb0 : Below w.heap.size w w0 := (Below.refl _ _).grown hgrow0 (Nat.le_refl _) (fun k h => by cases h)
  clear hgrow0
  go_wp2
  go_loopw [4] (fun i wr => ∃ k : Nat, k ≤ 64 ∧ i = .int .i64 (k : Int) ∧ wr.ownsRow w.heap.size 5 1 (.slice (some ⟨w.heap.size, 0, none⟩) 64 64) 64 (bv ((fitL b).take k ++ List.replicate (64 - k) 0)) ∧ Below w.heap.size w wr)
    (fun i _ => 64 - (intOf i).toNat)
  case atStart => exact ⟨0, by omega, rfl, by simpa using hown0, hb0⟩
  case round =>
    obtain ⟨k, hk, rfl, hown, hbel⟩ := hrel
    by_cases hk0 : k < 64
    · have t1 : (k : Int) < 64 := by omega
      have t1' : decide ((k : Int) < 64) = true := by simp; omega
      by_cases hk1 : k < n
      · have t2 : (k : Int) < (n : Int) := by omega
        have t2' : decide ((k : Int) < (n : Int)) = true := by simp; omega
        obtain ⟨b0, off, rfl, hb, hcell⟩ := HR.out.at_ (by omega)
        have hc1 : wr.cell? ⟨b0, off + k, none⟩ = some (.int .u8 ((b.getD k 0).toNat : Int)) := (hbel.cell (p := ⟨b0, off + k, none⟩) hb).trans (hcell k hk1)
        have hc := hown.cellAt k (by omega)
        have hf := hown.frozenAt k
        have hs := hown.stored k
        rw [bv_at _ _ (by simp [fitL_len]; omega)] at hc
        obtain ⟨u, hu⟩ : ∃ u, u = b.getD k 0 := ⟨_, rfl⟩
        rw [← hu] at hc1
        have HU := Lib.hid hu
        clear hu hcell
        go_wp2
        go_roundw
        case rel => exact ⟨k + 1, by omega, by go_num, by rw [← fitL_step b k hk0, ← HU.out, ← bv_set]; exact (hs _).1, hbel.setCell (Nat.le_refl _) _⟩
        case measure => simp [intOf]; omega
      · have t2 : ¬ (k : Int) < (n : Int) := by omega
        have t2' : decide ((k : Int) < (n : Int)) = false := by simp; omega
        go_wp2
        go_ret
        rw [fitL_end b k hk (.inr (by rw [HLN.out]; omega))] at hown
        exact ⟨_, _, _, rfl, hown, hbel⟩
    · obtain rfl : k = 64 := by omega
      go_wp2
      go_ret
      rw [fitL_end b 64 hk (.inl rfl)] at hown
      exact ⟨_, _, _, rfl, hown, hbel⟩
/-- Whether a step is too great. -/
def bigB (bn cn fn : Nat) : Bool := decide (700 < bn) || (decide (300 < cn) || decide (300 < fn))
set_option maxHeartbeats 2000000 in
theorem big_any (kd ii : Int) (Ab : Option Addr) (bn bc : Nat) (Ac : Option Addr) (cn cc : Nat) (Af : Option Addr) (fn fc : Nat) (st : Int) (w : World) :
    Calls Tryz.prog 9 #[.agg #[.int .i64 kd, .int .i64 ii, .slice Ab bn bc, .slice Ac cn cc, .slice Af fn fc, .int .i64 st]] w fun e w' => e = .returned (.bool (bigB bn cn fn)) ∧ Below w.heap.size w w' := by
  obtain ⟨g, hg⟩ : ∃ g, w.heap.size = g := ⟨_, rfl⟩
  obtain ⟨w0, hw0⟩ : ∃ w0, w.alloc (.cells #[.int .i64 kd, .int .i64 ii, .slice Ab bn bc, .slice Ac cn cc, .slice Af fn fc, .int .i64 st] 40) = w0 := ⟨_, rfl⟩
  have T0 := show Bk w0 g 40 #[.int .i64 kd, .int .i64 ii, .slice Ab bn bc, .slice Ac cn cc, .slice Af fn fc, .int .i64 st] by rw [← hw0]; exact Bk.newAt _ _ _ _ hg
  have B0 := Lib.hid (show Below w.heap.size w w0 by rw [← hw0]; exact (Below.refl _ _).alloc (Nat.le_refl _) _)
  have k2 : w0.cell? ⟨g, 2, none⟩ = some (.slice Ab bn bc) := T0.cell 2
  have k3 : w0.cell? ⟨g, 3, none⟩ = some (.slice Ac cn cc) := T0.cell 3
  have k4 : w0.cell? ⟨g, 4, none⟩ = some (.slice Af fn fc) := T0.cell 4
  obtain ⟨p, hp⟩ : ∃ p, p = decide ((700 : Int) < (bn : Int)) := ⟨_, rfl⟩
  obtain ⟨r, hr⟩ : ∃ r, r = decide ((300 : Int) < (cn : Int)) := ⟨_, rfl⟩
  obtain ⟨t, ht⟩ : ∃ t, t = decide ((300 : Int) < (fn : Int)) := ⟨_, rfl⟩
  have HF := Lib.hid (show bigB bn cn fn = (p || (r || t)) by
    rw [hp, hr, ht]
    unfold bigB
    rw [Bool.eq_iff_iff]
    simp
    omega)
  replace hp := hp.symm
  replace hr := hr.symm
  replace ht := ht.symm
  clear T0
  cases p <;> cases r <;> cases t <;>
  · go_enter Tryz.func9, Tryz.ntmps9
    go_wp2
    go_ret
    exact ⟨by rw [HF.out]; rfl, B0.out⟩
end Go.Proofs.YtdbamdbdogdpjaaGreatDoor.S20

/-
  How the steps of layer 20's statements read, which came in. No statement is proved here.
-/
namespace Go.Proofs.YtdbamdbdogdpjaaGreatDoor.S20
set_option linter.unusedSimpArgs false
set_option linter.unusedVariables false
set_option maxRecDepth 4096
open Go.ChangeShapes Go.WideShapes Go.ChangeAt Go.RowKit Go.Joins S19

/-- A step, as it came in. -/
structure AcW where
  kd : Int
  ii : Int
  ba : Option Addr
  bn : Nat
  bc : Nat
  b : List UInt8
  ca : Option Addr
  cn : Nat
  cc : Nat
  ch : List UInt8
  fa : Option Addr
  fn : Nat
  fc : Nat
  fs : List Int
  st : Int
instance : Inhabited AcW := ⟨⟨0, 0, none, 0, 0, [], none, 0, 0, [], none, 0, 0, [], 0⟩⟩
def AcW.cells (a : AcW) : List Value := [.int .i64 a.kd, .int .i64 a.ii, .slice a.ba a.bn a.bc, .slice a.ca a.cn a.cc, .slice a.fa a.fn a.fc, .int .i64 a.st]
structure AcW.Ok (W : World) (a : AcW) : Prop where
  b : Rd W a.ba a.bn a.bc a.b
  ch : Rd W a.ca a.cn a.cc a.ch
  fs : RI W .i64 a.fa a.fn a.fc a.fs
  hi : -9223372036854775808 ≤ a.ii ∧ a.ii < 9223372036854775808
/-- A row of steps. -/
structure RW (W : World) (A : Option Addr) (n c : Nat) (xs : List AcW) : Prop where
  len : xs.length = n
  cap : n ≤ c
  max : c ≤ maxLen
  nil : A = none → c = 0
  at_ : 0 < n → ∃ b off, A = some ⟨b, off, none⟩ ∧ b < W.heap.size ∧ ∀ j, j < n → (xs.getD j default).Ok W ∧ ∀ q, q < 6 → W.cell? ⟨b, off + j * 6 + q, none⟩ = (xs.getD j default).cells[q]?
theorem trod_struct5' {H : Type} {enc : TypeId × Value → H} {P : Program} {w : World} {base : Nat} {spare : Nat → Bool} {held : Bool} {t : TypeId} {f0 f1 f2 f3 f4 : Field} {fuel : Nat} {cs : List Value} {x : DataW H × List MemPlace} (ht : P.underlying t = some (.struct #[f0, f1, f2, f3, f4])) (h : DataW.trod enc P w base spare held fuel t cs = some x) :
    ∃ y0 y1 y2 y3 y4 n, cs.length = P.cellsOf t ∧ DataW.trod enc P w base spare held n f0.type ((cs.drop f0.offset).take (P.cellsOf f0.type)) = some y0 ∧
      DataW.trod enc P w base spare held n f1.type ((cs.drop f1.offset).take (P.cellsOf f1.type)) = some y1 ∧ DataW.trod enc P w base spare held n f2.type ((cs.drop f2.offset).take (P.cellsOf f2.type)) = some y2 ∧
      DataW.trod enc P w base spare held n f3.type ((cs.drop f3.offset).take (P.cellsOf f3.type)) = some y3 ∧ DataW.trod enc P w base spare held n f4.type ((cs.drop f4.offset).take (P.cellsOf f4.type)) = some y4 := by
  obtain ⟨xs, n, _, rfl, hl, hlen, hf⟩ := DataW.trod_struct ht h
  match xs, hlen with
  | [y0, y1, y2, y3, y4], _ => exact ⟨y0, y1, y2, y3, y4, n, hl, by simpa using hf 0 f0 rfl, by simpa using hf 1 f1 rfl, by simpa using hf 2 f2 rfl, by simpa using hf 3 f3 rfl, by simpa using hf 4 f4 rfl⟩
theorem step_of_trod {H : Type} {enc : TypeId × Value → H} {W : World} {n : Nat} {cs : List Value} {y : DataW H × List MemPlace} (h : DataW.trod enc Tryz.prog W 0 (fun _ => true) true n 40 cs = some y) : ∃ a : AcW, cs = a.cells ∧ a.Ok W := by
  obtain ⟨y0, y1, y2, y3, y4, m, hl, h0, h1, h2, h3, h4⟩ := trod_struct5' Tryz.underlying40 h
  have e7 : Tryz.prog.cellsOf 40 = 6 := by kernel_rfl
  have ei : Tryz.prog.cellsOf 3 = 1 := by kernel_rfl
  have es : Tryz.prog.cellsOf 35 = 1 := by kernel_rfl
  have ez : Tryz.prog.cellsOf 36 = 1 := by kernel_rfl
  have ep : Tryz.prog.cellsOf 38 = 2 := by kernel_rfl
  rw [e7] at hl
  match cs, hl with
  | [c0, c1, c2, c3, c4, c5], _ =>
    have k0 : DataW.trod enc Tryz.prog W 0 (fun _ => true) true m 3 [c0] = some y0 := by simpa [ei] using h0
    have k1 : DataW.trod enc Tryz.prog W 0 (fun _ => true) true m 3 [c1] = some y1 := by simpa [ei] using h1
    have k2 : DataW.trod enc Tryz.prog W 0 (fun _ => true) true m 35 [c2] = some y2 := by simpa [es] using h2
    have k3 : DataW.trod enc Tryz.prog W 0 (fun _ => true) true m 35 [c3] = some y3 := by simpa [es] using h3
    have k4 : DataW.trod enc Tryz.prog W 0 (fun _ => true) true m 38 [c4, c5] = some y4 := by simpa [ep] using h4
    obtain ⟨z0, z1, m', _, _, p0, p1⟩ := trod_struct2 Tryz.underlying38 k4
    have q0 : DataW.trod enc Tryz.prog W 0 (fun _ => true) true m' 36 [c4] = some z0 := by simpa [ez] using p0
    have q1 : DataW.trod enc Tryz.prog W 0 (fun _ => true) true m' 3 [c5] = some z1 := by simpa [ei] using p1
    obtain ⟨v0, rfl, _⟩ := i64_of_trod k0
    obtain ⟨v1, rfl, l1⟩ := i64_of_trod k1
    obtain ⟨v2, rfl, r2⟩ := row_of_trod k2
    obtain ⟨v3, rfl, r3⟩ := row_of_trod k3
    obtain ⟨v5, rfl, r5⟩ := open_zi q0
    obtain ⟨v6, rfl, _⟩ := i64_of_trod q1
    exact ⟨⟨v0, v1, v2.1, v2.2.1, v2.2.2.1, v2.2.2.2, v3.1, v3.2.1, v3.2.2.1, v3.2.2.2, v5.1, v5.2.1, v5.2.2.1, v5.2.2.2, v6⟩, rfl, r2, r3, r5, l1⟩
/-- A row of steps that came in. -/
theorem open_steps {H : Type} {enc : TypeId × Value → H} {W : World} {v : Value} {d : DataW H} {p : List MemPlace} {base : Nat}
    (hv : Value.okWide Tryz.prog W .any base 22 v) (h : DataW.Trod enc Tryz.prog W 0 (fun _ => true) true 22 v d p) :
    ∃ y : Option Addr × Nat × Nat × List AcW, v = .slice y.1 y.2.1 y.2.2.1 ∧ RW W y.1 y.2.1 y.2.2.1 y.2.2.2 := by
  obtain ⟨A, len, cap, rfl⟩ := okWide_slice Tryz.underlying22 hv
  obtain ⟨fuel, hf⟩ := h
  rcases Go.Deep.open_slice Tryz.underlying22 hf with ⟨hcs, _⟩ | ⟨a, l, c, m, n, D, Pl, hcs, _, hl, hm, hmm, _, hx⟩
  · simp [Value.cells] at hcs
    obtain ⟨rfl, rfl, rfl⟩ := hcs
    exact ⟨(none, 0, 0, []), rfl, ⟨rfl, Nat.le_refl _, by simp [maxLen], fun _ => rfl, fun h => absurd h (by simp)⟩⟩
  · simp [Value.cells] at hcs
    obtain ⟨rfl, rfl, rfl⟩ := hcs
    have hmc : m = cap := by simpa using hmm
    subst hmc
    have h6c : Tryz.prog.cellsOf 40 = 6 := by kernel_rfl
    rw [h6c] at hx
    obtain ⟨X, hX⟩ := Go.Deep.choose_lt (α := AcW) (p := fun i y => y.Ok W ∧ ∀ q, q < 6 → W.cell? ((a.add (i * 6)).add q) = y.cells[q]?) (fun i hi => by
      obtain ⟨cs', hc, ht⟩ := hx i hi
      obtain ⟨_, hlen, hat⟩ := World.cells?_some hc
      obtain ⟨y, e, hy⟩ := step_of_trod ht
      refine ⟨y, hy, fun q hq => ?_⟩
      have := hat q hq
      rw [e] at this
      exact this)
    refine ⟨(some a, len, m, (List.range len).map X), rfl, ⟨by simp, hl, hm, (fun h => by cases h), fun hn => ?_⟩⟩
    have hn' : 0 < len := hn
    obtain ⟨b, off, spot⟩ := a
    have h0 := (hX 0 (by omega)).2 0 (by omega)
    rw [Go.Deep.add_add] at h0
    have hspot : spot = none := by simpa [Addr.add] using World.cell?_spot (h0.trans (by rfl))
    subst hspot
    refine ⟨b, off, rfl, World.block_lt_of_cell? W _ (h0.trans (by rfl)), fun j hj => ?_⟩
    have hj' : j < len := hj
    have e : ((List.range len).map X).getD j default = X j := by simp [List.getD, hj']
    rw [e]
    refine ⟨(hX j (by omega)).1, fun q hq => ?_⟩
    have h1 := (hX j (by omega)).2 q hq
    rw [Go.Deep.add_add, Go.WideShapes.add_plain] at h1
    rw [Nat.add_assoc]
    exact h1
end Go.Proofs.YtdbamdbdogdpjaaGreatDoor.S20
