/-
  Texts put together: Sl5, Sl6, SlG. No statement is proved here.
-/
import Derived.Test.YtdbamdbdogdpjaaGreatDoorWa18
import Derived.Test.YtdbamdbdogdpjaaGreatDoorWa09

/-
  The document's own slots: is an area a record? No statement is proved here. (Written by gensl5.py.)
-/
namespace Go.Proofs.YtdbamdbdogdpjaaGreatDoor.S20
set_option linter.unusedSimpArgs false
set_option linter.unusedVariables false
set_option maxRecDepth 4096
open Go.RowKit S19

theorem rget_step20 (xs : List UInt8) (k : Nat) (hk : k < xs.length) (h8 : k < 8) :
    IntKind.u64.wrap (IntKind.u64.wrap ((getL (xs.take k) : Nat) * 256) + IntKind.u64.wrap ((xs[k]?.getD 0).toNat : Int)) = (getL (xs.take (k + 1)) : Nat) := by
  have hg := getL_lt (xs.take k)
  rw [List.length_take, Nat.min_eq_left (by omega)] at hg
  have h7 : 256 ^ k ≤ 256 ^ 7 := Nat.pow_le_pow_right (by omega) (by omega)
  have hc := (xs[k]'hk).toNat_lt
  rw [List.take_succ_eq_append_getElem hk, getL_snoc, List.getElem?_eq_getElem hk, Option.getD_some]
  simp only [IntKind.wrap_u64]
  omega
theorem rget20 (A : Option Addr) (n c : Nat) (xs : List UInt8) (w : World) (hn : n ≤ 8) (h : Rd w A n c xs) :
    Calls Tryz.prog 71 #[.slice A n c] w fun e w' => e = .returned (.tuple #[.int .u64 (getL xs : Nat), .bool true]) ∧ w = w' := by
  go_enter Tryz.func71, Tryz.ntmps71
  go_wp2
  go_loop [4, 5] (fun v i => ∃ k : Nat, k ≤ n ∧ i = .int .i64 k ∧ v = .int .u64 (getL (xs.take k) : Nat)) (fun _ i => n - (intOf i).toNat)
  case atStart => exact ⟨0, Nat.zero_le _, rfl, rfl⟩
  case round =>
    obtain ⟨k, hk, rfl, rfl⟩ := hrel
    by_cases hlt : k < n
    · obtain ⟨b, off, rfl, hb, hcell⟩ := h.at_ (by omega)
      have hc := hcell k hlt
      clear hcell
      go_wp2
      go_round
      case rel =>
        exact ⟨k + 1, by omega, by go_num, by rw [← rget_step20 xs k (by have := h.len; omega) (by omega)]⟩
      case measure => simp [intOf]; omega
    · obtain rfl : k = n := by omega
      go_wp2
      go_ret2
      have e := h.len
      exact ⟨by rw [List.take_of_length_le (by omega)]; rfl, rfl⟩
theorem run_cutLHu {A : Option Addr} {n c l' m : Nat} {l h : Int} (hl : l = l') (hh : h = l' + m) (hk : l' + m ≤ c) (W : World) :
    (Instr.slice 35 (.slice A n c) (some (.int .i64 l)) (some (.int .u64 h)) none).run Tryz.prog W = .ok (.slice (if c = l' then A else A.map (·.add l')) m (c - l')) W := by
  have ee : Tryz.prog.elem 35 = 5 := by kernel_rfl
  have hs : (sizeOf 5).run Tryz.prog W = .ok 1 W := by kernel_rfl
  have e1 : h.toNat - l' = m := by omega
  have e2 : l.toNat = l' := by omega
  rw [run_slice_lh W 35 A n c (by rw [ee]; exact Tryz.underlying35) .i64 .u64 l h (by omega) (by omega) (by omega), ee, hs]
  simp only [Result.andThen, sliced, Nat.mul_one, e2, e1]
theorem run_cutLHuAt {A : Option Addr} {n c l' m : Nat} {l h : Int} (hl : l = l') (hh : h = l' + m) (hk : l' + m ≤ c) (W : World) :
    (Instr.sliceAt 35 (.slice A n c) (some (.int .i64 l)) (some (.int .u64 h)) none).run Tryz.prog W = .ok (.slice (if c = l' then A else A.map (·.add l')) m (c - l')) W := by
  have ee : Tryz.prog.elem 35 = 5 := by kernel_rfl
  rw [run_sliceAt_slice W 35 _ _ _ _ (by rw [ee]; exact Tryz.underlying35)]
  exact run_cutLHu hl hh hk W
/-- What an area comes to. -/
def GivesW (xs : List UInt8) (n : Nat) (w : World) (e : Ending) (w' : World) : Prop := ∃ A c, e = .returned (.tuple #[.int .u64 ((whole xs n).1 : Int), .slice A (whole xs n).2.length c]) ∧ Rd w' A (whole xs n).2.length c (whole xs n).2 ∧ Below w.heap.size w w'
set_option maxHeartbeats 4000000 in
theorem rwhole_any (A : Option Addr) (k c : Nat) (xs : List UInt8) (n : Nat) (w : World) (hr : Rd w A k c xs) (hk : k = 64 * n) (h1 : 1 ≤ n) (h8 : n ≤ 8) :
    Calls Tryz.prog 46 #[.slice A k c, .int .i64 (n : Int)] w (GivesW xs n w) := by
  have hrm := room_nat h1 h8
  obtain ⟨rm, hrm2⟩ : ∃ rm, rm = room n := ⟨_, rfl⟩
  have HRM := Lib.hid (show ∀ X, Calls Tryz.prog 37 #[.int .i64 (n : Int)] X fun e w' => e = .returned (.int .i64 (rm : Int)) ∧ X = w' from fun X => by rw [hrm2]; exact rroom_any n (by omega) (by omega) X)
  have hcap := hr.cap
  have hl := hr.len
  obtain ⟨num, hnum⟩ : ∃ num, num = numOf xs := ⟨_, rfl⟩
  obtain ⟨cnt, hcnt⟩ : ∃ cnt, cnt = cntOf xs := ⟨_, rfl⟩
  have hnl := numOf_lt xs
  have hcl := cntOf_lt xs
  rw [← hnum] at hnl
  rw [← hcnt] at hcl
  have P1 : ∀ W, (Instr.slice 35 (.slice A k c) none (some (.int .i64 8)) none).run Tryz.prog W = .ok (.slice A 8 c) W := fun W => run_cutSlH (m := 8) rfl (by omega) W
  have P2 : ∀ W, (Instr.sliceAt 35 (.slice A k c) none (some (.int .i64 8)) none).run Tryz.prog W = .ok (.slice A 8 c) W := fun W => run_cutSlHAt (m := 8) rfl (by omega) W
  obtain ⟨A8, hA8⟩ : ∃ A8, A8 = if c = 8 then A else A.map (·.add 8) := ⟨_, rfl⟩
  have P3 : ∀ W, (Instr.slice 35 (.slice A k c) (some (.int .i64 8)) (some (.int .i64 12)) none).run Tryz.prog W = .ok (.slice A8 4 (c - 8)) W := fun W => by rw [hA8]; exact run_cutSlLH (l' := 8) (m := 4) rfl rfl (by omega) W
  have P4 : ∀ W, (Instr.sliceAt 35 (.slice A k c) (some (.int .i64 8)) (some (.int .i64 12)) none).run Tryz.prog W = .ok (.slice A8 4 (c - 8)) W := fun W => by rw [hA8]; exact run_cutSlLHAt (l' := 8) (m := 4) rfl rfl (by omega) W
  have G1 := Lib.hid (show Calls Tryz.prog 71 #[.slice A 8 c] w fun e w' => e = .returned (.tuple #[.int .u64 (num : Int), .bool true]) ∧ w = w' by rw [hnum]; exact rget20 A 8 c _ w (by omega) (hr.take (by omega)))
  have G2 := Lib.hid (show Calls Tryz.prog 71 #[.slice A8 4 (c - 8)] w fun e w' => e = .returned (.tuple #[.int .u64 (cnt : Int), .bool true]) ∧ w = w' by
    rw [hcnt, hA8]
    exact rget20 _ 4 (c - 8) _ w (by omega) ((hr.cut (k := 8) (by omega)).take (by omega)))
  by_cases q1 : num = 0
  · have F := Lib.hid (show GivesW xs n w (.returned (.tuple #[.int .u64 0, .slice none 0 0])) w from by
      have e : whole xs n = (0, []) := if_neg (fun h => h.1 (by rw [← hnum]; exact q1))
      unfold GivesW
      rw [e]
      exact ⟨none, 0, rfl, Rd.nil_ _, Below.refl _ _⟩)
    have y1 : ((num : Int) == 0) = true := by simp; omega
    clear hk h1 h8 hnum hcnt hA8 hl hcap hrm2 hr hrm hcl hnl
    go_enter Tryz.func46, Tryz.ntmps46
    go_wp2_with (first
      | (go_at_call 71; ((with_reducible refine G1.out.mono ?_); rintro e w1 ⟨rfl, rfl⟩))
      | (go_at_call 71; ((with_reducible refine G2.out.mono ?_); rintro e w2 ⟨rfl, rfl⟩))
      | (go_at_call 37; ((with_reducible refine (HRM.out _).mono ?_); rintro e w3 ⟨rfl, rfl⟩)))
    go_ret2
    exact F.out
  by_cases q2 : rm < cnt
  · have F := Lib.hid (show GivesW xs n w (.returned (.tuple #[.int .u64 0, .slice none 0 0])) w from by
      have e : whole xs n = (0, []) := if_neg (fun h => by have := h.2.1; omega)
      unfold GivesW
      rw [e]
      exact ⟨none, 0, rfl, Rd.nil_ _, Below.refl _ _⟩)
    have y1 : ((num : Int) == 0) = false := by simp; omega
    have y2 : (rm : Int) < (cnt : Int) := by omega
    have y3 : rm < 18446744073709551616 := by omega
    clear hk h1 h8 hnum hcnt hA8 hl hcap hrm2 hr hrm hcl hnl q1 q2
    go_enter Tryz.func46, Tryz.ntmps46
    go_wp2_with (first
      | (go_at_call 71; ((with_reducible refine G1.out.mono ?_); rintro e w1 ⟨rfl, rfl⟩))
      | (go_at_call 71; ((with_reducible refine G2.out.mono ?_); rintro e w2 ⟨rfl, rfl⟩))
      | (go_at_call 37; ((with_reducible refine (HRM.out _).mono ?_); rintro e w3 ⟨rfl, rfl⟩)))
    go_ret2
    exact F.out
  · obtain ⟨A12, hA12⟩ : ∃ A12, A12 = if c = 12 then A else A.map (·.add 12) := ⟨_, rfl⟩
    have P5 : ∀ W, (Instr.slice 35 (.slice A k c) (some (.int .i64 12)) (some (.int .u64 (12 + (cnt : Int)))) none).run Tryz.prog W = .ok (.slice A12 cnt (c - 12)) W := fun W => by rw [hA12]; exact run_cutLHu (l' := 12) (m := cnt) rfl (by omega) (by omega) W
    have P6 : ∀ W, (Instr.sliceAt 35 (.slice A k c) (some (.int .i64 12)) (some (.int .u64 (12 + (cnt : Int)))) none).run Tryz.prog W = .ok (.slice A12 cnt (c - 12)) W := fun W => by rw [hA12]; exact run_cutLHuAt (l' := 12) (m := cnt) rfl (by omega) (by omega) W
    obtain ⟨dt, hdt⟩ : ∃ dt, dt = dataOf xs := ⟨_, rfl⟩
    have RD := Lib.hid (show Rd w A12 cnt (c - 12) dt by rw [hdt, dataOf, ← hcnt, hA12]; exact (hr.cut (k := 12) (by omega)).take (by omega))
    obtain ⟨rec, hrec⟩ : ∃ rec, rec = recB num dt n := ⟨_, rfl⟩
    have RC := Lib.hid (show Calls Tryz.prog 38 #[.int .u64 (num : Int), .slice A12 cnt (c - 12), .int .i64 (n : Int)] w (New w.heap.size w rec) by rw [hrec]; exact rrec_any num hnl A12 cnt (c - 12) dt n w RD.out (by omega) (by omega))
    have HR := Lib.hid hr
    have y1 : ((num : Int) == 0) = false := by simp; omega
    have y2 : ¬ (rm : Int) < (cnt : Int) := by omega
    have y3 : rm < 18446744073709551616 := by omega
    have F := Lib.hid (show ∀ X, Below w.heap.size w X → sameB rec xs = true → GivesW xs n w (.returned (.tuple #[.int .u64 (num : Int), .slice A12 cnt (c - 12)])) X from fun X hX hs => by
      have hrx : rec = xs := by simpa [sameB] using hs
      have e : whole xs n = (num, dt) := by rw [whole, if_pos ⟨by rw [← hnum]; exact q1, by rw [← hcnt]; omega, by rw [← hnum, ← hdt, ← hrec]; exact hrx⟩, hnum, hdt]
      have hdl : dt.length = cnt := RD.out.len
      unfold GivesW
      rw [e]
      show ∃ A' c', _ = Ending.returned (.tuple #[.int .u64 (num : Int), .slice A' dt.length c']) ∧ Rd X A' dt.length c' dt ∧ _
      rw [hdl]
      exact ⟨A12, c - 12, rfl, RD.out.below hX, hX⟩)
    have F0 := Lib.hid (show ∀ X, Below w.heap.size w X → sameB rec xs = false → GivesW xs n w (.returned (.tuple #[.int .u64 0, .slice none 0 0])) X from fun X hX hs => by
      have hrx : rec ≠ xs := by simpa [sameB] using hs
      have e : whole xs n = (0, []) := if_neg (fun h => hrx (by have := h.2.2; rw [← hnum, ← hdt, ← hrec] at this; exact this))
      unfold GivesW
      rw [e]
      exact ⟨none, 0, rfl, Rd.nil_ _, hX⟩)
    have BDN := Lib.hid (show ∀ (X : World) q, Below w.heap.size w X → Below w.heap.size w (X.drewN q) from fun X q h => ⟨h.os, h.tape, h.output, h.size, h.block⟩)
    have SM := Lib.hid (show ∀ X A c, Rd X A rec.length c rec → Rd X A rec.length c rec from fun _ _ _ h => h)
    clear hk h1 h8 hnum hcnt hA8 hl hcap hrm2 hr hrm q1 q2 hA12 hdt hrec
    obtain ⟨rl, hrl⟩ : ∃ rl, rl = rec.length := ⟨_, rfl⟩
    have HRL := Lib.hid hrl
    clear hrl
    cases hs : sameB rec xs
    · have F1 := Lib.hid (fun X hX => F0.out X hX hs)
      go_enter Tryz.func46, Tryz.ntmps46
      go_wp2_with (first
        | (go_at_call 71; ((with_reducible refine G1.out.mono ?_); rintro e w1 ⟨rfl, rfl⟩))
        | (go_at_call 71; ((with_reducible refine G2.out.mono ?_); rintro e w2 ⟨rfl, rfl⟩))
        | (go_at_call 37; ((with_reducible refine (HRM.out _).mono ?_); rintro e w3 ⟨rfl, rfl⟩))
        | (go_at_call 38; ((with_reducible refine RC.out.mono ?_); rintro e w4 ⟨A4, n4, c4, rfl, o4, b4⟩; have R4 := Lib.hid (Rd.own o4); have B4 := Lib.hid b4; clear o4 b4))
        | (go_at_call 14; ((with_reducible refine (rsame_any A4 A n4 c4 k c rec xs w4 R4.out (HR.out.below B4.out)).mono ?_); rintro e w5 ⟨rfl, q5, rfl⟩; rw [hs])))
      go_ret2
      exact F1.out _ (BDN.out _ _ B4.out)
    · have F1 := Lib.hid (fun X hX => F.out X hX hs)
      go_enter Tryz.func46, Tryz.ntmps46
      go_wp2_with (first
        | (go_at_call 71; ((with_reducible refine G1.out.mono ?_); rintro e w1 ⟨rfl, rfl⟩))
        | (go_at_call 71; ((with_reducible refine G2.out.mono ?_); rintro e w2 ⟨rfl, rfl⟩))
        | (go_at_call 37; ((with_reducible refine (HRM.out _).mono ?_); rintro e w3 ⟨rfl, rfl⟩))
        | (go_at_call 38; ((with_reducible refine RC.out.mono ?_); rintro e w4 ⟨A4, n4, c4, rfl, o4, b4⟩; have R4 := Lib.hid (Rd.own o4); have B4 := Lib.hid b4; clear o4 b4))
        | (go_at_call 14; ((with_reducible refine (rsame_any A4 A n4 c4 k c rec xs w4 R4.out (HR.out.below B4.out)).mono ?_); rintro e w5 ⟨rfl, q5, rfl⟩; rw [hs])))
      go_ret2
      exact F1.out _ (BDN.out _ _ B4.out)
end Go.Proofs.YtdbamdbdogdpjaaGreatDoor.S20

/-
  The document's own slots on their disk, in memory. No statement is proved here.
-/
namespace Go.Proofs.YtdbamdbdogdpjaaGreatDoor.S20
set_option linter.unusedSimpArgs false
set_option linter.unusedVariables false
set_option maxRecDepth 4096
open Go.RowKit S19

theorem Tryz.infoLay : (Tryz.prog.info? 82).map (fun i => (i.zero, i.size, i.bytes)) = some (some (.agg #[.int .i64 0, .slice none 0 0]), 2, 32) := by kernel_rfl
/-- append of one that was to lie somewhere, at a step. -/
theorem step_append_lay {w : World} {ops : Array Oper} {o : Oper} {a : Act} {K : Act → World → Prop} {Q : Exit → Act → World → Prop} {E : Prop} (hw : Region.wanted o (yielded ops a.tmps) = true) (s x : Operand)
    (ho : o.op = .call { callee := .builtin .append, args := #[s, x], argTypes := #[49, 49] })
    (base : Nat) (v : Value) (n : Nat) (vs : List Value) (hs : a.eval s = v) (hown : w.ownsRow base 82 2 v n vs)
    (b : Nat) (u0 u1 : Value) (hx : a.eval x = .slice (some ⟨b, 0, none⟩) 1 1) (hu0 : u0.oneCell' = true) (hu1 : u1.oneCell' = true) (hc0 : w.cell? ⟨b, 0, none⟩ = some u0) (hc1 : w.cell? ⟨b, 1, none⟩ = some u1) (hb : n + 1 ≤ 2000000000000) (hbase : base ≤ w.heap.size)
    (h : ∀ v' w', w'.ownsRow base 82 2 v' (n + 1) (vs ++ [u0, u1]) → w.grownBy w' v.ownBlock → (v'.ownBlock = v.ownBlock ∨ v'.ownBlock = some w.heap.size) → K (a.put o.dst v') w') :
    if Region.wanted o (yielded ops a.tmps) = true then Oper.wp Tryz.prog o a w K Q else E := by
  obtain ⟨i0, hi, hz0, hz1, hz2⟩ := info_parts Tryz.infoLay
  rw [if_pos hw]
  obtain ⟨v', w', hrun, h2, h3, _, h5⟩ := run_append_own_at (P := Tryz.prog) w base 49 o.type 82 i0 (.agg #[.int .i64 0, .slice none 0 0]) 2 32 Tryz.underlying49 hi hz0 hz1 hz2 rfl (by omega) v n vs hown ⟨b, 0, none⟩ 1 1 [u0, u1]
      (by simp) (fun j x hj => by
        match j, hj with
        | 0, hj => simp at hj; subst hj; simpa [Addr.add] using hc0
        | 1, hj => simp at hj; subst hj; simpa [Addr.add] using hc1
        | j + 2, hj => simp at hj) (fun x hx => by
          simp at hx
          rcases hx with rfl | rfl
          · exact hu0
          · exact hu1) (by simp only [maxLen]; omega) (by omega) hbase
  unfold Oper.wp
  simp [execOp, ho, resolve, invoke, builtin, hs, hx, hrun, Result.andThen]
  exact h v' w' h2 h3 h5
theorem own_formS {w : World} {B e size n : Nat} {v : Value} {xs : List Value} (h : w.ownsRow B e size v n xs) : ∃ (A : Option Addr) (c : Nat), v = .slice A n c := by
  rcases h.2 with ⟨rfl, rfl⟩ | ⟨g, cap, cur, rfl, _⟩
  · exact ⟨none, 0, rfl⟩
  · exact ⟨_, cap, rfl⟩
theorem wrap_nat (m : Nat) (h : m ≤ 1000000) : wrap64 (m : Int) = (m : Int) ∧ IntKind.i64.wrap (m : Int) = (m : Int) := by
  refine ⟨?_, IntWalk.i64_in _ (by omega)⟩
  unfold wrap64
  omega
theorem pn_of {tt n first at0 : Nat} (h : tt = 0 ∨ tt = 1) (hn : n ≤ 8) (hf : first + 2 * n ≤ 256) (ha : at0 = first + tt * n) : tt * n ≤ 8 ∧ at0 + n ≤ 256 := by
  rcases h with rfl | rfl
  · rw [ha]; omega
  · rw [ha]; omega
theorem hb_of {j n m6 c6 at0 lj aj : Nat} (hlt : j < n) (hn8 : n ≤ 8) (hm : m6 = 64 * n) (hp : at0 + n ≤ 256) (hc : m6 ≤ c6) (hl : lj = 64 * j) (ha : aj = at0 + j) : lj + 64 ≤ c6 ∧ lj + 64 ≤ m6 ∧ lj + 64 ≤ 1000000 ∧ lj ≤ 1000000 ∧ aj ≤ 1000000 ∧ 0 < m6 := by omega
theorem cnt_of {a b j n : Nat} (h1 : a ≤ b + j) (h2 : b < 1099511627000) (h3 : j < n) (h4 : n ≤ 8) : a < 1099511627776 := by omega
theorem cnt_of2 {a b j : Nat} (h1 : a ≤ b + j) (h2 : b < 1099511627000) (h3 : j ≤ 8) : a < 1099511627776 := by omega
theorem at_of {m : Nat} (h : m ≤ 1) : (m : Int) = -1 ∨ (m : Int) = 0 ∨ (m : Int) = 1 := by omega
theorem small_of {j n : Nat} (h3 : j < n) (h4 : n ≤ 8) : j + 1 ≤ 9223372036854775807 := by omega
theorem add_block (a : Addr) (k : Nat) : (a.add k).block = a.block := by
  simp only [Addr.add]
  split <;> rfl
/-- What was to be laid. -/
structure Ld (N : Nat) (w : World) (L : Value) (k : Nat) (T : Nat → Prop) : Prop where
  own : ∃ vs, w.ownsRow N 82 2 L k vs
  at_ : ∀ b, L.ownBlock = some b → T b
  lt : ∀ b, T b → N ≤ b ∧ b < w.heap.size
theorem Ld.nil (N : Nat) (w : World) : Ld N w (.slice none 0 0) 0 (fun _ => False) := ⟨⟨[], World.ownsRow_nil _ _ _ _⟩, fun b e => by simp [Value.ownBlock] at e, fun b e => e.elim⟩
theorem Ld.keep {N : Nat} {w w' : World} {L : Value} {k : Nat} {T : Nat → Prop} (r : Ld N w L k T) (hs : w.heap.size ≤ w'.heap.size) (hk : ∀ b, T b → w'.heap[b]? = w.heap[b]?) : Ld N w' L k T := by
  obtain ⟨vs, h⟩ := r.own
  exact ⟨⟨vs, own_keepH h fun b e _ => hk b (r.at_ b e)⟩, r.at_, fun b hb => ⟨(r.lt b hb).1, Nat.lt_of_lt_of_le (r.lt b hb).2 hs⟩⟩
theorem rk_setL {N : Nat} {w : World} {h : Nat} {L : Value} {D : Dk} {G : Nat → Prop} (r : Rk N w h L D G) (v : Value) : Rk N (w.setCell ⟨h, 0, none⟩ v) h v D G ∧ Mv N G w (w.setCell ⟨h, 0, none⟩ v) := by
  obtain ⟨V, hb, hr⟩ := r.ex
  exact ⟨⟨r.ok, V, hb.put 0 v, hr.poke 0 v⟩, Mv.poke r.lo.1 r.lo.2 _ _ _⟩
/-- The document's own disk and slots, apart. -/
structure Qs (N : Nat) (w : World) (h q : Nat) (L : Value) (k : Nat) (D : Dk) (Z : Sl) (G S T : Nat → Prop) : Prop where
  rk : Rk N w h L D G
  rz : Rz N w q h Z S
  ld : Ld N w L k T
  zo : Z.Ok D
  gs : ∀ b, G b → ¬ S b
  gt : ∀ b, G b → ¬ T b
  st : ∀ b, S b → ¬ T b
abbrev Or3 (G S T : Nat → Prop) : Nat → Prop := fun b => G b ∨ S b ∨ T b
theorem Rz.lt2 {N : Nat} {w : World} {q h : Nat} {Z : Sl} {S : Nat → Prop} (r : Rz N w q h Z S) : q < w.heap.size := (r.lt q r.at_).2
section
variable {N : Nat} {w w' : World} {h q k : Nat} {L L' : Value} {D D' : Dk} {Z Z' : Sl} {G G' S S' T T' : Nat → Prop}
theorem Qs.lt (t : Qs N w h q L k D Z G S T) : ∀ b, Or3 G S T b → N ≤ b ∧ b < w.heap.size := by
  rintro b (e | e | e)
  · exact t.rk.lt b e
  · exact t.rz.lt b e
  · exact t.ld.lt b e
/-- The disk has moved. -/
theorem Qs.disk (t : Qs N w h q L k D Z G S T) (hR : Rk N w' h L D' G') (hs : ∀ b, G' b → G b ∨ w.heap.size ≤ b) (m : Mv N G w w') (hl : D'.sure.length = D.sure.length) : Qs N w' h q L k D' Z G' S T := by
  refine ⟨hR, t.rz.keep m.size fun b hb => m.same b (t.rz.lt b hb).2 fun hG => t.gs b hG hb, t.ld.keep m.size fun b hb => m.same b (t.ld.lt b hb).2 fun hG => t.gt b hG hb, ⟨t.zo.one, t.zo.most, by rw [hl]; exact t.zo.fits, t.zo.at_, t.zo.num⟩, fun b hG hS => ?_, fun b hG hT => ?_, t.st⟩
  · rcases hs b hG with e | e
    · exact t.gs b e hS
    · have := (t.rz.lt b hS).2; omega
  · rcases hs b hG with e | e
    · exact t.gt b e hT
    · have := (t.ld.lt b hT).2; omega
/-- Nothing of theirs has moved. -/
theorem Qs.grow (t : Qs N w h q L k D Z G S T) (hb : Below w.heap.size w w') : Qs N w' h q L k D Z G S T :=
  ⟨t.rk.grow hb, t.rz.keep hb.size fun b e => hb.block b (t.rz.lt b e).2, t.ld.keep hb.size fun b e => hb.block b (t.ld.lt b e).2, t.zo, t.gs, t.gt, t.st⟩
/-- The slots alone have moved. -/
theorem Qs.slots (t : Qs N w h q L k D Z G S T) (hZ : Rz N w' q h Z' S') (hs : ∀ b, S' b → S b ∨ w.heap.size ≤ b) (m : Mv N S w w') (ho : Z'.Ok D) : Qs N w' h q L k D Z' G S' T := by
  refine ⟨t.rk.keep m.size fun b hb hl => m.same b hl fun hS => ?_, hZ, t.ld.keep m.size fun b hb => m.same b (t.ld.lt b hb).2 fun hS => t.st b hS hb, ho, fun b hG hS => ?_, t.gt, fun b hS hT => ?_⟩
  · rcases hb with e | e
    · have := (t.rz.lt b hS).1; omega
    · exact t.gs b e hS
  · rcases hs b hS with e | e
    · exact t.gs b hG e
    · have := (t.rk.lt b hG).2; omega
  · rcases hs b hS with e | e
    · exact t.st b e hT
    · have := (t.ld.lt b hT).2; omega
theorem rk_loN (r : Rk N w h L D G) : N ≤ w.heap.size := by
  obtain ⟨V, _, hr⟩ := r.ex
  exact hr.lo
/-- One more was to be laid. -/
theorem lay_step {wl w8 : World} (t : Qs N w h q L k D Z G S T) (hb : Below w.heap.size w wl) {vs : List Value} {v8 : Value} (ho : w8.ownsRow N 82 2 v8 (k + 1) vs) (hg : wl.grownBy w8 L.ownBlock) (hv : v8.ownBlock = L.ownBlock ∨ v8.ownBlock = some wl.heap.size) :
    Qs N (w8.setCell ⟨h, 0, none⟩ v8) h q v8 (k + 1) D Z G S (fun b => T b ∨ v8.ownBlock = some b) ∧ Mv N (Or3 G (fun x => x = q) T) w (w8.setCell ⟨h, 0, none⟩ v8) ∧ (∀ b, (T b ∨ v8.ownBlock = some b) → T b ∨ w.heap.size ≤ b) := by
  have hN := (rk_loN t.rk)
  have hbs := hb.size
  have m8 : Mv N T w w8 := ⟨(hb.mono hN).grown hg (Nat.le_trans hN hb.size) fun b e => (t.ld.lt b (t.ld.at_ b e)).1, fun b hl hT => grown_keep hb hg b hl fun e => hT (t.ld.at_ b e)⟩
  have hnew : ∀ b, v8.ownBlock = some b → T b ∨ w.heap.size ≤ b := fun b e => by
    rcases hv with hv | hv
    · exact .inl (t.ld.at_ b (hv ▸ e))
    · rw [hv] at e
      have := Option.some.inj e
      exact .inr (by omega)
  have rk8 : Rk N w8 h L D G := t.rk.keep m8.size fun b hb hl => m8.same b hl fun hT => by
    rcases hb with e | e
    · have := (t.ld.lt b hT).1; omega
    · exact t.gt b e hT
  have rz8 : Rz N w8 q h Z S := t.rz.keep m8.size fun b hS => m8.same b (t.rz.lt b hS).2 fun hT => t.st b hS hT
  obtain ⟨rk9, m9⟩ := rk_setL rk8 v8
  have hh : ∀ b, b ≠ h → (w8.setCell ⟨h, 0, none⟩ v8).heap[b]? = w8.heap[b]? := fun b hb => Below.heap_setCell w8 ⟨h, 0, none⟩ v8 b hb
  have hs9 : w8.heap.size ≤ (w8.setCell ⟨h, 0, none⟩ v8).heap.size := by simp
  have hG := t.rk.lo.2
  have hhl := (t.rk.lt h hG).2
  refine ⟨⟨rk9, rz8.keep hs9 fun b hS => hh b fun e => t.gs h hG (e ▸ hS), ⟨⟨vs, own_keepH ho fun b e _ => hh b fun e' => ?_⟩, fun b e => .inr e, ?_⟩, t.zo, t.gs, ?_, ?_⟩, ?_, ?_⟩
  · subst e'
    rcases hnew _ e with q | q
    · exact t.gt _ hG q
    · omega
  · rintro b (e | e)
    · exact ⟨(t.ld.lt b e).1, Nat.lt_of_lt_of_le (t.ld.lt b e).2 (Nat.le_trans m8.size hs9)⟩
    · refine ⟨?_, Nat.lt_of_lt_of_le (ho.lt b e).2 hs9⟩
      rcases hnew b e with q | q
      · exact (t.ld.lt b q).1
      · omega
  · rintro b hGb (e | e)
    · exact t.gt b hGb e
    · rcases hnew b e with q | q
      · exact t.gt b hGb q
      · have := (t.rk.lt b hGb).2; omega
  · rintro b hSb (e | e)
    · exact t.st b hSb e
    · rcases hnew b e with q | q
      · exact t.st b hSb q
      · have := (t.rz.lt b hSb).2; omega
  · exact (m8.mono (F' := Or3 G (fun x => x = q) T) fun b e => .inr (.inr e)).trans (m9.mono (F' := Or3 G (fun x => x = q) T) fun b e => .inl e) fun b e => .inl e
  · rintro b (e | e)
    · exact .inl e
    · exact hnew b e
/-- Of the slots' memory their own block alone is written. -/
theorem slots_setQ {w8 : World} (t : Qs N w h q L k D Z G S T) {a : Int} {nx nb c8 : Nat} {A8 : Option Addr} (hb : Below w.heap.size ((w.setCell ⟨q, 3, none⟩ (.int .i64 a)).setCell ⟨q, 4, none⟩ (.int .u64 (nx : Int))) w8) : Mv N (fun x => x = q) w (w8.setCell ⟨q, 5, none⟩ (.slice A8 nb c8)) := by
  have hNq := (t.rz.lt q t.rz.at_).1
  have b4 : Below N w ((w.setCell ⟨q, 3, none⟩ (.int .i64 a)).setCell ⟨q, 4, none⟩ (.int .u64 (nx : Int))) := ((Below.refl _ _).setCell (p := ⟨q, 3, none⟩) hNq _).setCell (p := ⟨q, 4, none⟩) hNq _
  refine ⟨(b4.trans (hb.mono (Nat.le_trans (rk_loN t.rk) (Nat.le_refl _)))).setCell (p := ⟨q, 5, none⟩) hNq _, fun x hx hne => ?_⟩
  exact (Below.heap_setCell _ ⟨q, 5, none⟩ _ x hne).trans ((hb.block x hx).trans ((Below.heap_setCell _ ⟨q, 4, none⟩ _ x hne).trans (Below.heap_setCell _ ⟨q, 3, none⟩ _ x hne)))
/-- What counts is another record. -/
theorem slots_set {w8 : World} (t : Qs N w h q L k D Z G S T) {a : Int} {nx nb c8 : Nat} {A8 : Option Addr} {b : List UInt8} (hb : Below w.heap.size ((w.setCell ⟨q, 3, none⟩ (.int .i64 a)).setCell ⟨q, 4, none⟩ (.int .u64 (nx : Int))) w8) (hr : Rd w8 A8 nb c8 b) (hA : ∀ x, 0 < nb → A8 = some x → w.heap.size ≤ x.block) (ha : a = -1 ∨ a = 0 ∨ a = 1) (hnx : nx < 18446744073709551616) :
    Qs N (w8.setCell ⟨q, 5, none⟩ (.slice A8 nb c8)) h q L k D { Z with at_ := a, num := nx, b := b } G (fun x => S x ∨ ∃ y, 0 < nb ∧ A8 = some y ∧ y.block = x) T ∧ Mv N S w (w8.setCell ⟨q, 5, none⟩ (.slice A8 nb c8)) ∧ (∀ x, (S x ∨ ∃ y, 0 < nb ∧ A8 = some y ∧ y.block = x) → S x ∨ w.heap.size ≤ x) := by
  obtain rfl : b.length = nb := hr.len
  obtain ⟨A9, c9, hq, _, _⟩ := t.rz.ex
  have hql := t.rz.lt2
  have hSq := t.rz.at_
  have hNq := (t.rz.lt q hSq).1
  have h4 : ∀ x, x ≠ q → ((w.setCell ⟨q, 3, none⟩ (.int .i64 a)).setCell ⟨q, 4, none⟩ (.int .u64 (nx : Int))).heap[x]? = w.heap[x]? := fun x hx => (Below.heap_setCell _ ⟨q, 4, none⟩ _ x hx).trans (Below.heap_setCell _ ⟨q, 3, none⟩ _ x hx)
  have h5 : ∀ x, x ≠ q → (w8.setCell ⟨q, 5, none⟩ (.slice A8 b.length c8)).heap[x]? = w8.heap[x]? := fun x hx => Below.heap_setCell _ ⟨q, 5, none⟩ _ x hx
  have hs8 : w.heap.size ≤ w8.heap.size := by have := hb.size; simp at this; exact this
  have hs9 : w8.heap.size ≤ (w8.setCell ⟨q, 5, none⟩ (.slice A8 b.length c8)).heap.size := by simp
  have hq4 := (hq.put 3 (.int .i64 a)).put 4 (.int .u64 (nx : Int))
  have hq8 := hq4.below hb hql
  have hq9 := hq8.put 5 (.slice A8 b.length c8)
  have hne : ∀ x, 0 < b.length → A8 = some x → x.block ≠ q := fun x h1 h2 e => by have := hA x h1 h2; omega
  have hsame : ∀ x, x < w.heap.size → x ≠ q → (w8.setCell ⟨q, 5, none⟩ (.slice A8 b.length c8)).heap[x]? = w.heap[x]? := fun x hx hn => (h5 x hn).trans ((hb.block x hx).trans (h4 x hn))
  have m : Mv N S w (w8.setCell ⟨q, 5, none⟩ (.slice A8 b.length c8)) := by
    refine ⟨?_, fun x hx hS => hsame x hx fun e => hS (e ▸ hSq)⟩
    have b4 : Below N w ((w.setCell ⟨q, 3, none⟩ (.int .i64 a)).setCell ⟨q, 4, none⟩ (.int .u64 (nx : Int))) := ((Below.refl _ _).setCell (p := ⟨q, 3, none⟩) hNq _).setCell (p := ⟨q, 4, none⟩) hNq _
    exact (b4.trans (hb.mono (Nat.le_trans (rk_loN t.rk) (Nat.le_refl _)))).setCell (p := ⟨q, 5, none⟩) hNq _
  have hg : ∀ x, (S x ∨ ∃ y, 0 < b.length ∧ A8 = some y ∧ y.block = x) → S x ∨ w.heap.size ≤ x := by
    rintro x (e | ⟨y, h1, h2, rfl⟩)
    · exact .inl e
    · exact .inr (hA y h1 h2)
  refine ⟨t.slots ⟨⟨A8, c8, hq9, rd_farB hr (fun x h1 h2 => hne x h1 h2) 5 _, fun x h1 h2 => ⟨.inr ⟨x, h1, h2, rfl⟩, hne x h1 h2⟩⟩, .inl hSq, ?_⟩ hg m ⟨t.zo.one, t.zo.most, t.zo.fits, ha, hnx⟩, m, hg⟩
  rintro x (e | ⟨y, h1, h2, rfl⟩)
  · exact ⟨(t.rz.lt x e).1, Nat.lt_of_lt_of_le (t.rz.lt x e).2 (Nat.le_trans hs8 hs9)⟩
  · refine ⟨Nat.le_trans (rk_loN t.rk) (hA y h1 h2), Nat.lt_of_lt_of_le ?_ hs9⟩
    obtain ⟨bb, off, e, hbb, _⟩ := hr.at_ h1
    rw [h2] at e
    injection e with e
    subst e
    exact hbb
end
end Go.Proofs.YtdbamdbdogdpjaaGreatDoor.S20

/-
  A drawn region that appends what was to lie somewhere: what holds while it is gone through. No statement is proved here.
-/
namespace Go.Proofs.YtdbamdbdogdpjaaGreatDoor.S20
set_option linter.unusedSimpArgs false
set_option linter.unusedVariables false
set_option maxRecDepth 4096
open Go.RowKit S19

theorem run_append_lay {o : Oper} {a : Act} {w w' : World} {v u v' : Value} (s x : Operand) (ho : o.op = .call { callee := .builtin .append, args := #[s, x], argTypes := #[49, 49] }) (hs : a.eval s = v) (hx : a.eval x = u)
    (hrun : (Builtin.append_ #[49, 49] o.type #[v, u]).run Tryz.prog w = .ok v' w') : (execOp a.eval o).run Tryz.prog w = .ok (.value v') w' := by
  simp [execOp, ho, resolve, invoke, builtin, hs, hx, hrun, Result.andThen]
/-- One more has come behind what was to be laid. -/
structure Sx (N : Nat) (w : World) (L : Value) (k : Nat) (v8 : Value) (X : World) : Prop where
  ex : ∃ wl vs, Below w.heap.size w wl ∧ X.ownsRow N 82 2 v8 (k + 1) vs ∧ wl.grownBy X L.ownBlock ∧ (v8.ownBlock = L.ownBlock ∨ v8.ownBlock = some wl.heap.size)
abbrev Gh := Nat × Option Addr × Nat
abbrev v8of (k : Nat) (g : Gh) : Value := .slice g.2.1 (k + 1) g.2.2
/-- What holds of a world, some operations being done: load of the row (10), the literal (24), append (25), the store (28). -/
structure ILay (N : Nat) (w : World) (h : Nat) (L : Value) (k : Nat) (cs : Array Value) (g : Gh) (B : Array Bool) (X : World) : Prop where
  o1 : B.getD 25 false = true → B.getD 24 false = true ∧ B.getD 10 false = true
  o2 : B.getD 28 false = true → B.getD 25 false = true
  s1 : B.getD 25 false = false → Below w.heap.size w X
  s2 : B.getD 24 false = true → B.getD 25 false = false → Bk X g.1 82 cs
  s3 : B.getD 25 false = true → B.getD 28 false = false → Sx N w L k (v8of k g) X
  s4 : B.getD 28 false = true → ∃ X0, Sx N w L k (v8of k g) X0 ∧ X = X0.setCell ⟨h, 0, none⟩ (v8of k g)
section
variable {N : Nat} {w : World} {h q k : Nat} {L : Value} {D : Dk} {Z : Sl} {G S T : Nat → Prop} {cs : Array Value} {g : Gh} {B : Array Bool} {X : World}
theorem ILay.pure (I : ILay N w h L k cs g B X) (i : Nat) (h10 : i ≠ 10) (h24 : i ≠ 24) (h25 : i ≠ 25) (h28 : i ≠ 28) : ILay N w h L k cs g (B.setIfInBounds i true) X := by
  have e10 := SG.getD_ne (L := B) h10
  have e24 := SG.getD_ne (L := B) h24
  have e25 := SG.getD_ne (L := B) h25
  have e28 := SG.getD_ne (L := B) h28
  exact ⟨by rw [e25, e24, e10]; exact I.o1, by rw [e28, e25]; exact I.o2, by rw [e25]; exact I.s1, by rw [e24, e25]; exact I.s2, by rw [e25, e28]; exact I.s3, by rw [e28]; exact I.s4⟩
theorem ILay.load (I : ILay N w h L k cs g B X) : ILay N w h L k cs g (B.setIfInBounds 10 true) X := by
  have e24 := SG.getD_ne (L := B) (show 10 ≠ 24 by decide)
  have e25 := SG.getD_ne (L := B) (show 10 ≠ 25 by decide)
  have e28 := SG.getD_ne (L := B) (show 10 ≠ 28 by decide)
  refine ⟨fun e => ?_, by rw [e28, e25]; exact I.o2, by rw [e25]; exact I.s1, by rw [e24, e25]; exact I.s2, by rw [e25, e28]; exact I.s3, by rw [e28]; exact I.s4⟩
  rw [e25] at e
  refine ⟨by rw [e24]; exact (I.o1 e).1, ?_⟩
  rw [SG.getD_set]
  split
  · rfl
  · exact (I.o1 e).2
/-- Where the literal isn't made, or what is appended isn't, the world has but drawn. -/
theorem ILay.early (I : ILay N w h L k cs g B X) (e : B.getD 10 true = false) : Below w.heap.size w X := by
  refine I.s1 ?_
  cases e25 : B.getD 25 false
  · rfl
  · have h1 := (I.o1 e25).2
    by_cases hs : 10 < B.size
    · rw [SG.getD_false hs, h1] at e; cases e
    · simp [Array.getD_eq_getD_getElem?, Array.getElem?_eq_none (Nat.le_of_not_lt hs)] at h1
theorem Sx.block (t : Qs N w h q L k D Z G S T) {v8 : Value} (s : Sx N w L k v8 X) (hq : q < w.heap.size) : X.heap[q]? = w.heap[q]? := by
  obtain ⟨wl, vs, hb, ho, hg, hv⟩ := s.ex
  exact grown_keep hb hg q hq fun e => t.st q t.rz.at_ (t.ld.at_ q e)
theorem ILay.block (t : Qs N w h q L k D Z G S T) (I : ILay N w h L k cs g B X) (hq : q < w.heap.size) (hne : q ≠ h) : X.heap[q]? = w.heap[q]? := by
  cases e25 : B.getD 25 false
  · exact (I.s1 e25).block q hq
  · cases e28 : B.getD 28 false
    · exact (I.s3 e25 e28).block t hq
    · obtain ⟨X0, h1, rfl⟩ := I.s4 e28
      exact (Below.heap_setCell X0 ⟨h, 0, none⟩ _ q hne).trans (h1.block t hq)
theorem getD_tf (i : Nat) (e : B.getD i true = false) : B.getD i false = false ∧ i < B.size := by
  by_cases hs : i < B.size
  · exact ⟨by rw [← SG.getD_false hs]; exact e, hs⟩
  · simp [Array.getD_eq_getD_getElem?, Array.getElem?_eq_none (Nat.le_of_not_lt hs)] at e
theorem ILay.lit (I : ILay N w h L k cs g B X) (h0 : B.getD 24 true = false) : ILay N w h L k cs (X.heap.size, g.2) (B.setIfInBounds 24 true) (X.alloc (.cells cs 82)) := by
  obtain ⟨h1, hs⟩ := getD_tf 24 h0
  have h25 : B.getD 25 false = false := by
    cases e : B.getD 25 false
    · rfl
    · rw [(I.o1 e).1] at h1; cases h1
  have h28 : B.getD 28 false = false := by
    cases e : B.getD 28 false
    · rfl
    · rw [I.o2 e] at h25; cases h25
  have e25 := SG.getD_ne (L := B) (show 24 ≠ 25 by decide)
  have e28 := SG.getD_ne (L := B) (show 24 ≠ 28 by decide)
  have b := I.s1 h25
  refine ⟨fun e => ?_, fun e => ?_, fun _ => b.alloc b.size _, fun _ _ => Bk.newAt _ _ _ _ rfl, fun e => ?_, fun e => ?_⟩
  · rw [e25, h25] at e; cases e
  · rw [e28, h28] at e; cases e
  · rw [e25, h25] at e; cases e
  · rw [e28, h28] at e; cases e
theorem ILay.app (I : ILay N w h L k cs g B X) (h0 : B.getD 25 true = false) (d24 : B.getD 24 false = true) (d10 : B.getD 10 false = true) {A8 : Option Addr} {c8 : Nat} {X' : World} {vs : List Value} (ho : X'.ownsRow N 82 2 (.slice A8 (k + 1) c8) (k + 1) vs) (hg : X.grownBy X' L.ownBlock) (hv : Value.ownBlock (.slice A8 (k + 1) c8) = L.ownBlock ∨ Value.ownBlock (.slice A8 (k + 1) c8) = some X.heap.size) :
    ILay N w h L k cs (g.1, A8, c8) (B.setIfInBounds 25 true) X' := by
  obtain ⟨h1, hs⟩ := getD_tf 25 h0
  have h28 : B.getD 28 false = false := by
    cases e : B.getD 28 false
    · rfl
    · rw [I.o2 e] at h1; cases h1
  have e10 := SG.getD_ne (L := B) (show 25 ≠ 10 by decide)
  have e24 := SG.getD_ne (L := B) (show 25 ≠ 24 by decide)
  have e28 := SG.getD_ne (L := B) (show 25 ≠ 28 by decide)
  have e25 := SG.getD_new (L := B) hs
  refine ⟨fun _ => ⟨by rw [e24]; exact d24, by rw [e10]; exact d10⟩, fun e => ?_, fun e => ?_, fun _ e => ?_, fun _ _ => ⟨⟨X, vs, I.s1 h1, ho, hg, hv⟩⟩, fun e => ?_⟩
  · rw [e28, h28] at e; cases e
  · rw [e25] at e; cases e
  · rw [e25] at e; cases e
  · rw [e28, h28] at e; cases e
theorem ILay.stored (I : ILay N w h L k cs g B X) (h0 : B.getD 28 true = false) (d25 : B.getD 25 false = true) : ILay N w h L k cs g (B.setIfInBounds 28 true) (X.setCell ⟨h, 0, none⟩ (v8of k g)) := by
  obtain ⟨h1, hs⟩ := getD_tf 28 h0
  have e10 := SG.getD_ne (L := B) (show 28 ≠ 10 by decide)
  have e24 := SG.getD_ne (L := B) (show 28 ≠ 24 by decide)
  have e25 := SG.getD_ne (L := B) (show 28 ≠ 25 by decide)
  have e28 := SG.getD_new (L := B) hs
  refine ⟨fun e => ?_, fun _ => by rw [e25]; exact d25, fun e => ?_, fun _ e => ?_, fun _ e => ?_, fun _ => ⟨X, I.s3 d25 h1, rfl⟩⟩
  · rw [e24, e10]; exact I.o1 d25
  · rw [e25, d25] at e; cases e
  · rw [e25, d25] at e; cases e
  · rw [e28] at e; cases e
theorem ILay.start (hB : Below w.heap.size w X) (n : Nat) : ILay N w h L k cs g (Array.replicate n false) X := by
  refine ⟨fun e => ?_, fun e => ?_, fun _ => hB, fun e => ?_, fun e => ?_, fun e => ?_⟩
  all_goals (rw [SG.getD_rep] at e; cases e)
/-- What all of it comes to. -/
theorem ILay.done (t : Qs N w h q L k D Z G S T) (I : ILay N w h L k cs g B X) (e : B.getD 28 false = true) : ∃ T', Qs N X h q (v8of k g) (k + 1) D Z G S T' ∧ (∀ b, T' b → T b ∨ w.heap.size ≤ b) ∧ Mv N (Or3 G (fun x => x = q) T) w X := by
  obtain ⟨X0, s, rfl⟩ := I.s4 e
  obtain ⟨wl, vs, hb, ho, hg, hv⟩ := s.ex
  obtain ⟨h1, h2, h3⟩ := lay_step t hb ho hg hv
  exact ⟨_, h1, h3, h2⟩
theorem Sx.head (t : Qs N w h q L k D Z G S T) {v8 : Value} (s : Sx N w L k v8 X) (hh : h < w.heap.size) : X.heap[h]? = w.heap[h]? := by
  obtain ⟨wl, vs, hb, ho, hg, hv⟩ := s.ex
  exact grown_keep hb hg h hh fun e => t.gt h t.rk.lo.2 (t.ld.at_ h e)
end
end Go.Proofs.YtdbamdbdogdpjaaGreatDoor.S20
