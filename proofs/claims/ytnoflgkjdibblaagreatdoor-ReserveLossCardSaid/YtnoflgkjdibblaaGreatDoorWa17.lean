/-
  Texts put together: Rv4, Rv7, Rv9, SlL1, RvA, RvB, RvC, RvD. No statement is proved here.
-/
import Derived.Test.YtnoflgkjdibblaaGreatDoorWa16
import Derived.Test.YtnoflgkjdibblaaGreatDoorWa02
import Derived.Test.YtnoflgkjdibblaaGreatDoorWa05
import Derived.Test.YtnoflgkjdibblaaGreatDoorWa13
import Derived.Deep.RegionHeld3
import Derived.ChangeKeysEq

/-
  The document's own May, Bytes and Read of layer 21. No statement is proved here.
-/
namespace Go.Proofs.YtnoflgkjdibblaaGreatDoor.S21
set_option linter.unusedSimpArgs false
set_option linter.unusedVariables false
set_option maxRecDepth 4096
open Go.RowKit

set_option maxHeartbeats 2000000 in
theorem rmay21_any (x : Cn) (A : Option Addr) (n c : Nat) (w : World) : Calls Tryz.prog 37 #[.agg x.cells, .slice A n c] w fun e w' => e = .returned (.bool (decide (x.May n))) ∧ Below w.heap.size w w' := by
  obtain ⟨t, b, r, nx, gn⟩ := x
  obtain ⟨m, hm⟩ : ∃ m, m = decide (Cn.May ⟨t, b, r, nx, gn⟩ n) := ⟨_, rfl⟩
  rw [← hm]
  unfold Cn.May at hm
  simp only at hm
  unfold Cn.cells
  simp only
  obtain ⟨w1, hw1⟩ : ∃ w1, w1 = w.alloc (.cells #[.int .u64 (t : Int), .int .u64 (b : Int), .int .u64 (r : Int), .int .u64 (nx : Int), .bool gn] 46) := ⟨_, rfl⟩
  have hbel : Below w.heap.size w w1 := by rw [hw1]; exact (Below.refl _ _).alloc (Nat.le_refl _) _
  have HB := Lib.hid hbel
  have HW := Lib.hid hw1
  clear hbel hw1
  by_cases q1 : (0 : Int) < (t : Int)
  · by_cases q2 : (t : Int) ≤ 1152921504606846976
    · by_cases q3 : (0 : Int) < (b : Int)
      · by_cases q4 : (b : Int) ≤ 65536
        · by_cases q5 : (r : Int) ≤ (t : Int)
          · by_cases q6 : (n : Int) ≤ 200
            · obtain rfl : m = true := by rw [hm]; exact decide_eq_true (by omega)
              clear hm
              go_enter Tryz.func37, Tryz.ntmps37
              go_wp2
              go_ret
              rw [← HW.out]
              exact ⟨rfl, HB.out⟩
            · obtain rfl : m = false := by rw [hm]; exact decide_eq_false (by omega)
              clear hm
              go_enter Tryz.func37, Tryz.ntmps37
              go_wp2
              go_ret
              rw [← HW.out]
              exact ⟨rfl, HB.out⟩
          · obtain rfl : m = false := by rw [hm]; exact decide_eq_false (by omega)
            clear hm
            go_enter Tryz.func37, Tryz.ntmps37
            go_wp2
            go_ret
            rw [← HW.out]
            exact ⟨rfl, HB.out⟩
        · obtain rfl : m = false := by rw [hm]; exact decide_eq_false (by omega)
          clear hm
          go_enter Tryz.func37, Tryz.ntmps37
          go_wp2
          go_ret
          rw [← HW.out]
          exact ⟨rfl, HB.out⟩
      · obtain rfl : m = false := by rw [hm]; exact decide_eq_false (by omega)
        clear hm
        go_enter Tryz.func37, Tryz.ntmps37
        go_wp2
        go_ret
        rw [← HW.out]
        exact ⟨rfl, HB.out⟩
    · obtain rfl : m = false := by rw [hm]; exact decide_eq_false (by omega)
      clear hm
      go_enter Tryz.func37, Tryz.ntmps37
      go_wp2
      go_ret
      rw [← HW.out]
      exact ⟨rfl, HB.out⟩
  · obtain rfl : m = false := by rw [hm]; exact decide_eq_false (by omega)
    clear hm
    go_enter Tryz.func37, Tryz.ntmps37
    go_wp2
    go_ret
    rw [← HW.out]
    exact ⟨rfl, HB.out⟩
end Go.Proofs.YtnoflgkjdibblaaGreatDoor.S21

/-
  Two counters compared; two counters as bytes. No statement is proved here.
-/
namespace Go.Proofs.YtnoflgkjdibblaaGreatDoor.S21
set_option linter.unusedSimpArgs false
set_option linter.unusedVariables false
set_option maxRecDepth 4096
open Go.RowKit S19 S20

instance : DecidableEq Cn := fun x y => by
  obtain ⟨a, b, c, d, e⟩ := x
  obtain ⟨a', b', c', d', e'⟩ := y
  exact decidable_of_iff (a = a' ∧ b = b' ∧ c = c' ∧ d = d' ∧ e = e') (by simp)
/-- Two counters as bytes are the same just if they are, but for the next number, and their heads are. -/
theorem Cn.row_same {x y : Cn} {h k : List UInt8} (fx : x.Fit) (fy : y.Fit) : x.row h = y.row k ↔ ({ x with nxt := 0 } : Cn) = { y with nxt := 0 } ∧ h = k := by
  constructor
  · intro e
    have e1 := Cn.ofB_row x h fx
    have e2 := Cn.ofB_row y k fy
    rw [e, e2] at e1
    have e3 := Cn.row_f x h
    rw [e, Cn.row_f] at e3
    refine ⟨?_, e3.symm⟩
    obtain ⟨a, b, c, d, f⟩ := x
    obtain ⟨a', b', c', d', f'⟩ := y
    simp only [Cn.mk.injEq] at e1 ⊢
    exact ⟨e1.1.symm, e1.2.1.symm, e1.2.2.1.symm, trivial, e1.2.2.2.2.symm⟩
  · rintro ⟨e, rfl⟩
    obtain ⟨a, b, c, d, f⟩ := x
    obtain ⟨a', b', c', d', f'⟩ := y
    simp only [Cn.mk.injEq] at e
    obtain ⟨rfl, rfl, rfl, -, rfl⟩ := e
    rfl
theorem part_int {T : TypeId} {k : IntKind} (hu : Tryz.prog.underlying T = some (.int k)) (cs : Array Value) (j : Nat) (n : Int) (h : cs[j]? = some (.int k n)) (W : World) : (part T cs j).run Tryz.prog W = .ok (.int k n) W := by
  simp [part, isAgg, run_underlying hu, h]
theorem eq_step (T : TypeId) (k : IntKind) (hu : Tryz.prog.underlying T = some (.int k)) (cs ds : Array Value) (j : Nat) (m n : Int) (fs : List Field) (f : Field) (h1 : f.type = T) (h2 : f.offset = j) (h3 : f.name ≠ "_") (h4 : cs[j]? = some (.int k m)) (h5 : ds[j]? = some (.int k n)) (W : World) :
    (Op.eqFields (9998 + 1) cs ds (f :: fs)).run Tryz.prog W = if (m == n) = true then (Op.eqFields (9998 + 1) cs ds fs).run Tryz.prog W else .ok false W := by
  subst h1 h2
  rw [Op.eqFields, if_pos h3]
  simp only [Sem.run_bind, part_int hu cs _ m h4 W, part_int hu ds _ n h5 W, Result.andThen_ok, run_equalIn_int W 9998 f.type k k m n hu]
  cases m == n <;> simp
theorem part_bool {T : TypeId} (hu : Tryz.prog.underlying T = some .bool) (cs : Array Value) (j : Nat) (n : Bool) (h : cs[j]? = some (.bool n)) (W : World) : (part T cs j).run Tryz.prog W = .ok (.bool n) W := by
  simp [part, isAgg, run_underlying hu, h]
theorem eq_stepB (T : TypeId) (hu : Tryz.prog.underlying T = some .bool) (cs ds : Array Value) (j : Nat) (m n : Bool) (fs : List Field) (f : Field) (h1 : f.type = T) (h2 : f.offset = j) (h3 : f.name ≠ "_") (h4 : cs[j]? = some (.bool m)) (h5 : ds[j]? = some (.bool n)) (W : World) :
    (Op.eqFields (9998 + 1) cs ds (f :: fs)).run Tryz.prog W = if (m == n) = true then (Op.eqFields (9998 + 1) cs ds fs).run Tryz.prog W else .ok false W := by
  subst h1 h2
  rw [Op.eqFields, if_pos h3]
  simp only [Sem.run_bind, part_bool hu cs _ m h4 W, part_bool hu ds _ n h5 W, Result.andThen_ok, run_equalIn_bool W 9998 f.type m n hu]
  cases m == n <;> simp
set_option maxRecDepth 10000 in
/-- '==' of two counters. -/
theorem run_eql_Cn (x y : Cn) (W : World) : (binOp .eql 46 (.agg x.cells) (.agg y.cells)).run Tryz.prog W = .ok (.bool (decide (x = y))) W := by
  obtain ⟨a, b, c, d, f⟩ := x
  obtain ⟨a', b', c', d', f'⟩ := y
  unfold Cn.cells
  rw [run_eql_struct W, show (10000 : Nat) = 9998 + 1 + 1 from rfl, run_equalIn_agg W (9998 + 1) 46 _ _ (by kernel_rfl) (by kernel_rfl)]
  simp only [Program.fieldsOf, Tryz.underlying46]
  rw [eq_step 22 .u64 Tryz.underlying22 _ _ 0 a a' _ _ rfl rfl (by decide) rfl rfl, eq_step 22 .u64 Tryz.underlying22 _ _ 1 b b' _ _ rfl rfl (by decide) rfl rfl, eq_step 22 .u64 Tryz.underlying22 _ _ 2 c c' _ _ rfl rfl (by decide) rfl rfl,
    eq_step 22 .u64 Tryz.underlying22 _ _ 3 d d' _ _ rfl rfl (by decide) rfl rfl, eq_stepB 4 Tryz.underlying4 _ _ 4 f f' _ _ rfl rfl (by decide) rfl rfl]
  have e : decide ((⟨a, b, c, d, f⟩ : Cn) = ⟨a', b', c', d', f'⟩) = ((a : Int) == a' && (b : Int) == b' && (c : Int) == c' && (d : Int) == d' && f == f') := by
    rw [Bool.eq_iff_iff]
    simp only [decide_eq_true_eq, Cn.mk.injEq, Bool.and_eq_true, beq_iff_eq, and_assoc]
    constructor
    · rintro ⟨e1, e2, e3, e4, e5⟩; exact ⟨by omega, by omega, by omega, by omega, e5⟩
    · rintro ⟨e1, e2, e3, e4, e5⟩; exact ⟨by omega, by omega, by omega, by omega, e5⟩
  rw [e]
  cases (a : Int) == a' <;> cases (b : Int) == b' <;> cases (c : Int) == c' <;> cases (d : Int) == d' <;> cases f == f' <;> rfl
end Go.Proofs.YtnoflgkjdibblaaGreatDoor.S21

/-
  What the statements' first question of layer 21 goes through, in plain words: a disk at rest, saved upon again and again. No statement is proved here.
-/
namespace Go.Proofs.YtnoflgkjdibblaaGreatDoor.S21
set_option linter.unusedSimpArgs false
set_option linter.unusedVariables false
set_option maxRecDepth 8192
open S19 S20

/-- Slots and a disk at rest, at which the other half is not newer. -/
structure Fine (Z : Sl) (D : Dk) : Prop where
  calm : S20.Calm D
  pend : D.pend = []
  ok : Z.Ok D
  low : (whole (Z.area D (1 - Z.goes)) Z.n).1 ≤ Z.num
theorem Fine.new {k n : Nat} (h1 : 1 ≤ n) (h8 : n ≤ 8) (hk : 2 * n ≤ k) : Fine (Sl.new 0 n) (Dk.new k) := by
  refine ⟨S20.Calm.new k, rfl, new_ok (first := 0) (n := n) (decide_eq_true (by simp [Dk.new]; omega)), ?_⟩
  rw [area_new (k := k) (Z := Sl.new 0 n) (by show 0 + 2 * n ≤ k; omega) (by omega), whole_zero]
  exact Nat.zero_le _
theorem Fine.save {Z : Sl} {D : Dk} (f : Fine Z D) {b : List UInt8} (hb : b.length ≤ room Z.n) (hn : Z.num + 1 < 18446744073709551616) :
    Z.saveC D b = 0 ∧ Z.save D b = { Z with at_ := (Z.goes : Int), num := Z.num + 1, b := b } ∧ Fine (Z.save D b) (Z.saveD D b) ∧ (Z.saveD D b).cnt = D.cnt + Z.n + 1 ∧
      ∀ Y : Sl, Y.first = Z.first ∧ Y.n = Z.n → Y.loadC (Z.saveD D b) = 0 ∧ Y.load (Z.saveD D b) = Z.save D b ∧ Y.loadB (Z.saveD D b) = b := by
  obtain ⟨s1, s2, s3, s4, s5, s6, s7⟩ := save_calm f.calm f.pend f.ok hb
  have hx : Z.next = Z.num + 1 := Nat.mod_eq_of_lt hn
  rw [hx] at s2 s6
  have hg : Z.goes = 0 ∨ Z.goes = 1 := by unfold Sl.goes; split <;> simp
  refine ⟨s1, s2, ⟨s3, s4, save_ok f.ok b, ?_⟩, s5, fun Y hy => ?_⟩
  · have ho : 1 - (Z.save D b).goes = Z.goes := by
      rw [s2]
      rcases hg with e | e
      · rw [e]; simp [Sl.goes]
      · rw [e]; simp [Sl.goes]
    rw [ho, s2]
    show (whole (Z.area (Z.saveD D b) Z.goes) Z.n).1 ≤ Z.num + 1
    rw [s6, whole_rec (by omega) hn f.ok.one f.ok.most hb]
    exact Nat.le_refl _
  · obtain ⟨h5, h6⟩ := load_saved f.calm f.pend f.ok hb hn f.low Y hy
    refine ⟨h5, by rw [h6, s2], by rw [Sl.loadB, if_pos h5, h6]⟩
theorem Fine.row_fits {Z : Sl} (h8 : Z.n = 8) (x : Cn) {h : List UInt8} (hl : h.length ≤ 200) : (x.row h).length ≤ room Z.n := by
  rw [Cn.row_len, h8, show room (8 : Nat) = 484 from by decide]
  omega
def one04 : List UInt8 := [104]
theorem Fine.next {Z : Sl} {D : Dk} (f : Fine Z D) {b : List UInt8} (hb : b.length ≤ room Z.n) (hn : Z.num + 1 < 18446744073709551616) :
    ∃ (Z' : Sl) (D' : Dk), Z.save D b = Z' ∧ Z.saveD D b = D' ∧ Z.saveC D b = 0 ∧ Fine Z' D' ∧ Z'.n = Z.n ∧ Z'.num = Z.num + 1 ∧ Z'.first = Z.first ∧ D'.cnt = D.cnt + Z.n + 1 ∧
      ∀ Y : Sl, Y.first = Z.first ∧ Y.n = Z.n → Y.loadC D' = 0 ∧ Y.load D' = Z' ∧ Y.loadB D' = b := by
  obtain ⟨h1, h2, h3, h4, h5⟩ := f.save hb hn
  exact ⟨_, _, rfl, rfl, h1, h3, by rw [h2], by rw [h2], by rw [h2], h4, h5⟩
def aZ0 : Sl := Sl.new 0 8
def aD0 : Dk := Dk.new 16
theorem aw21_facts : ∃ (Z1 : Sl) (D1 : Dk) (Z2 : Sl) (D2 : Dk) (Z3 : Sl) (D3 : Dk), (Cn.newC 10 4 one04 aZ0 aD0 = 0 ∧ Cn.newZ 10 4 one04 aZ0 aD0 = Z1 ∧ Cn.newD 10 4 one04 aZ0 aD0 = D1) ∧
    (Cn.takeC ⟨10, 4, 0, 0, false⟩ one04 Z1 D1 = 0 ∧ Cn.takeN ⟨10, 4, 0, 0, false⟩ one04 Z1 D1 = 0 ∧ Cn.takeZ ⟨10, 4, 0, 0, false⟩ one04 Z1 D1 = Z2 ∧ Cn.takeD ⟨10, 4, 0, 0, false⟩ one04 Z1 D1 = D2 ∧ Cn.take ⟨10, 4, 0, 0, false⟩ one04 Z1 D1 = ⟨10, 4, 4, 1, false⟩) ∧
    (Cn.openC Z2 D2 = 0 ∧ Cn.openX Z2 D2 = ⟨10, 4, 4, 4, false⟩ ∧ Cn.openH Z2 D2 = one04 ∧ Z2.load D2 = Z2) ∧
    (Cn.takeC ⟨10, 4, 4, 4, false⟩ one04 Z2 D2 = 0 ∧ Cn.takeN ⟨10, 4, 4, 4, false⟩ one04 Z2 D2 = 4 ∧ Cn.takeZ ⟨10, 4, 4, 4, false⟩ one04 Z2 D2 = Z3 ∧ Cn.takeD ⟨10, 4, 4, 4, false⟩ one04 Z2 D2 = D3 ∧ Cn.take ⟨10, 4, 4, 4, false⟩ one04 Z2 D2 = ⟨10, 4, 8, 5, false⟩) ∧
    Cn.newC 10 4 [] Z3 D3 = 10 ∧ D1.cnt ≤ 100 ∧ D2.cnt ≤ 100 ∧ D3.cnt ≤ 100 := by
  have f0 : Fine aZ0 aD0 := Fine.new (by omega) (by omega) (by omega)
  obtain ⟨l1, l2⟩ := load_new (k := 16) (Z := aZ0) (by show 0 + 2 * 8 ≤ 16; omega) rfl rfl rfl
  have l1' : aZ0.loadC aD0 = 11 := l1
  have l2' : aZ0.load aD0 = aZ0 := l2
  have z1 : aZ0.n = 8 := rfl
  have z2 : aZ0.num = 0 := rfl
  have z3 : aD0.cnt = 0 := rfl
  clear l1 l2
  obtain ⟨Z1, D1, p1, p2, p3, f1, a1, b1, d1, c1, o1⟩ := f0.next (b := Cn.row ⟨10, 4, 0, 0, false⟩ one04) (Fine.row_fits z1 _ (by decide)) (by rw [z2]; omega)
  obtain ⟨Z2, D2, q1, q2, q3, f2, a2, b2, d2, c2, o2⟩ := f1.next (b := Cn.row ⟨10, 4, 4, 0, false⟩ one04) (Fine.row_fits (a1.trans z1) _ (by decide)) (by rw [b1, z2]; omega)
  obtain ⟨Z3, D3, r1, r2, r3, f3, a3, b3, d3, c3, o3⟩ := f2.next (b := Cn.row ⟨10, 4, 8, 4, false⟩ one04) (Fine.row_fits (a2.trans (a1.trans z1)) _ (by decide)) (by rw [b2, b1, z2]; omega)
  obtain ⟨u1, u2, u3⟩ := o2 Z2 ⟨d2, a2⟩
  obtain ⟨v1, v2, v3⟩ := o3 Z3 ⟨d3, a3⟩
  clear o1 o2 o3 f0 f1 f2 f3
  have fx : Cn.Fit ⟨10, 4, 4, 0, false⟩ := ⟨by decide, by decide, by decide, by decide⟩
  have mx : Cn.May ⟨10, 4, 4, 0, false⟩ one04.length := by decide
  have m0 : (Cn.fresh 10 4).May one04.length := by decide
  have m1 : (Cn.fresh 10 4).May ([] : List UInt8).length := by decide
  refine ⟨Z1, D1, Z2, D2, Z3, D3, ⟨?_, ?_, ?_⟩, ⟨?_, ?_, ?_, ?_, ?_⟩, ⟨?_, ?_, ?_, u2⟩, ⟨?_, ?_, ?_, ?_, ?_⟩, ?_, ?_, ?_, ?_⟩
  · rw [Cn.newC, if_pos m0, if_neg (by rw [l1']; omega), if_pos l1', l2']; exact p3
  · rw [Cn.newZ, if_pos m0, if_pos l1', l2']; exact p1
  · rw [Cn.newD, if_pos m0, if_pos l1', l2']; exact p2
  · simp [Cn.takeC, Cn.more, q3]
  · simp [Cn.takeN, Cn.takeC, Cn.more, q3]
  · simp [Cn.takeZ, Cn.must, Cn.more, q1]
  · simp [Cn.takeD, Cn.must, Cn.more, q2]
  · simp [Cn.take, Cn.takeC, Cn.must, Cn.more, q3, Cn.next]
  · rw [Cn.openC, if_pos u1, u3]; exact Cn.read_row _ one04 fx mx
  · rw [Cn.openX, u3, Cn.ofB_row _ one04 fx]
  · rw [Cn.openH, u3, Cn.row_f]
  · simp [Cn.takeC, Cn.more, r3]
  · simp [Cn.takeN, Cn.takeC, Cn.more, r3]
  · simp [Cn.takeZ, Cn.must, Cn.more, r1]
  · simp [Cn.takeD, Cn.must, Cn.more, r2]
  · simp [Cn.take, Cn.takeC, Cn.must, Cn.more, r3, Cn.next]
  · rw [Cn.newC, if_pos m1, if_pos v1]
  · rw [c1, z1, z3]; omega
  · rw [c2, c1, a1, z1, z3]; omega
  · rw [c3, c2, c1, a2, a1, z1, z3]; omega
end Go.Proofs.YtnoflgkjdibblaaGreatDoor.S21

/-
  The walk of layer 20's fifth statement (SlotsFull), over the contracts. No statement is proved here. (Written by gensll1.py.)
-/
namespace Go.Proofs.YtnoflgkjdibblaaGreatDoor.S20
set_option linter.unusedSimpArgs false
set_option linter.unusedVariables false
set_option maxRecDepth 4096
open Go.RowKit S19

theorem byte_lit (w : World) (b : UInt8) : Rd (w.alloc (.cells #[.int .u8 (b.toNat : Int)] 5)) (some ⟨w.heap.size, 0, none⟩) 1 1 [b] := by
  have := World.ownsRow_lit (base := 0) (e := 5) (size := 1) w #[.int .u8 (b.toNat : Int)] 1 (Nat.zero_le _) (by simp [maxLen]) (by simp)
  exact Rd.own (B := 0) (e := 5) (by simpa [bv] using this)
theorem out_of {F S F' S' : Nat → Prop} {n : Nat} {a : Nat} (h : ∀ b, Or2 F' S' b → Or2 F S b ∨ n ≤ b) (ha : a < n) (hn : ¬ Or2 F S a) : ¬ Or2 F' S' a := fun e => by
  rcases h a e with e | e
  · exact hn e
  · omega
theorem full_facts (k : Nat) (h1 : 1 ≤ k) (h8 : k ≤ 8) (b : List UInt8) (hb : b.length = room k) (c : UInt8) : (Sl.new 0 k).Ok (Dk.new (2 * k)) ∧ (Sl.new 0 k).saveC (Dk.new (2 * k)) (b ++ [c]) = 1 ∧ (Sl.new 0 k).saveD (Dk.new (2 * k)) (b ++ [c]) = Dk.new (2 * k) ∧ (Sl.new 0 k).save (Dk.new (2 * k)) (b ++ [c]) = Sl.new 0 k ∧
    (Sl.new 0 k).saveC (Dk.new (2 * k)) b = 0 ∧ (Sl.new 0 k).save (Dk.new (2 * k)) b = ⟨0, k, 0, 1, b⟩ ∧ (⟨0, k, 0, 1, b⟩ : Sl).loadC ((Sl.new 0 k).saveD (Dk.new (2 * k)) b) = 0 ∧ (⟨0, k, 0, 1, b⟩ : Sl).loadB ((Sl.new 0 k).saveD (Dk.new (2 * k)) b) = b ∧ (⟨0, k, 0, 1, b⟩ : Sl).loadN ((Sl.new 0 k).saveD (Dk.new (2 * k)) b) = 1 := by
  have hm : may (Dk.new (2 * k)).sure.length 0 (k : Int) = true := decide_eq_true (by simp [Dk.new]; omega)
  have hZ : (Sl.new 0 k).Ok (Dk.new (2 * k)) := new_ok (first := 0) (n := k) hm
  have hl : room (Sl.new 0 k).n < (b ++ [c]).length := by show room k < _; simp; omega
  have g1 : (Sl.new 0 k).saveC (Dk.new (2 * k)) (b ++ [c]) = 1 := by rw [Sl.saveC, if_pos hl]
  have hbl : b.length ≤ room (Sl.new 0 k).n := by show _ ≤ room k; omega
  obtain ⟨h3, h4, _⟩ := save_calm (Calm.new (2 * k)) rfl hZ hbl
  have ho : (whole ((Sl.new 0 k).area (Dk.new (2 * k)) (1 - (Sl.new 0 k).goes)) (Sl.new 0 k).n).1 ≤ (Sl.new 0 k).num := by
    rw [area_new (k := 2 * k) (Z := Sl.new 0 k) (by show 0 + 2 * k ≤ 2 * k; omega) (by omega), whole_zero]
    exact Nat.zero_le _
  obtain ⟨h5, h6⟩ := load_saved (Calm.new (2 * k)) rfl hZ hbl (by show 0 + 1 < _; omega) ho ⟨0, k, 0, 1, b⟩ ⟨rfl, rfl⟩
  refine ⟨hZ, g1, by rw [Sl.saveD, if_pos hl], by rw [Sl.save, g1, if_neg (by omega)], h3, h4, h5, ?_, ?_⟩
  · rw [Sl.loadB, if_pos h5, h6]
  · rw [Sl.loadN, if_pos h5, h6]; rfl
end Go.Proofs.YtnoflgkjdibblaaGreatDoor.S20

/-
  The statements' first question of layer 21, over the contracts. No statement is proved here. (Written by genrva.py.)
-/
namespace Go.Proofs.YtnoflgkjdibblaaGreatDoor.S21
set_option linter.unusedSimpArgs false
set_option linter.unusedVariables false
set_option maxRecDepth 8192
open Go.RowKit S19 S20

set_option maxHeartbeats 8000000 in
theorem awake21_any (M : DC) (C : SlC M) (K : RvC M C) (w : World) (hk : K.ok w) : Calls Tryz.prog 5 #[] w fun e w' => e = .returned (.bool true) ∧ Below w.heap.size w w' := by
  obtain ⟨N, hN⟩ : ∃ N, w.heap.size = N := ⟨_, rfl⟩
  have HN := Lib.hid hN
  have OKN := Lib.hid (show ∀ X, Below N w X → K.ok X from fun X hX => K.bel hk (by rw [hN]; exact hX))
  have BN := Lib.hid (show ∀ X Y, Below N w X → Below X.heap.size X Y → Below N w Y from fun X Y h h' => h.trans (h'.mono (by have := h.size; omega)))
  obtain ⟨Z1, D1, Z2, D2, Z3, D3, ⟨n1, n2, n3⟩, ⟨t1, t2, t3, t4, t5⟩, ⟨o1, o2, o3, o4⟩, ⟨s1, s2, s3, s4, s5⟩, e1, d1, d2, d3⟩ := aw21_facts
  have C1 := Lib.hid (show Calls Tryz.prog 6 #[.int .i64 16] w fun e w' => ∃ g F, e = .returned (.tuple #[.pointer (some ⟨g, 0, none⟩), .int .i64 0]) ∧ M.Is N w' g aD0 F ∧ Below N w w' from
    (M.new N w 16 (C.okM (K.okC hk)) (by omega) (by omega) (by omega)).mono fun e w' ⟨g, F, h1, h2, h3, h4⟩ => ⟨g, F, h1, h2, by rw [← hN]; exact h4⟩)
  have C2 := Lib.hid (show ∀ X g F, Below N w X → M.Is N X g aD0 F → Calls Tryz.prog 8 #[.pointer (some ⟨g, 0, none⟩), .int .i64 0, .int .i64 8] X fun e w' => ∃ s F' S', e = .returned (.tuple #[.pointer (some ⟨s, 0, none⟩), .int .i64 0]) ∧ Lz M C N w' g s aD0 aZ0 F' S' ∧ Below N X w' from
    fun X g F hX hI => (C.new N X g aD0 F 0 8 (K.okC (OKN.out X hX)) hI rfl).mono fun e w' ⟨s, S, F', h1, h2, h3, h4, h5, h6, h7⟩ => ⟨s, F', S, h1, ⟨h3, h2, h6, new_ok (first := 0) (n := 8) rfl⟩, h7.bel⟩)
  have C3 := Lib.hid (show ∀ X g s F S, Below N w X → Lz M C N X g s aD0 aZ0 F S → Calls Tryz.prog 10 #[.pointer (some ⟨s, 0, none⟩), .slice (some ⟨X.heap.size, 0, none⟩) 1 1, .int .u64 10, .int .u64 4] (X.alloc (.cells #[.int .u8 104] 5 (1, 2))) fun e w' =>
      ∃ cc R F' S', e = .returned (.tuple #[.pointer (some ⟨cc, 0, none⟩), .int .i64 0]) ∧ K.Is N w' cc s ⟨10, 4, 0, 0, false⟩ one04 R ∧ (∀ b, R b → ¬ Or2 F' S' b) ∧ Lz M C N w' g s D1 Z1 F' S' ∧ Below N X w' from fun X g s F S hX hI => by
    have hG : Below X.heap.size X (X.alloc (.cells #[.int .u8 104] 5 (1, 2))) := (Below.refl _ _).alloc (Nat.le_refl _) _
    have hr : Rd (X.alloc (.cells #[.int .u8 104] 5 (1, 2))) (some ⟨X.heap.size, 0, none⟩) 1 1 one04 := rd_mark X _ one04 _ rfl (by decide)
    refine (K.new N _ s g aD0 aZ0 F S _ 1 1 one04 10 4 (fun Y hY => OKN.out Y ((BN.out _ _ hX hG).trans hY)) (hI.grow hG) hr (fun a _ e hO => by injection e with e; rw [← e] at hO; have := (hI.lt _ hO).2; exact absurd this (Nat.lt_irrefl _)) (by show 0 < _; omega) (by omega) (by omega) (by omega)).mono ?_
    rintro e w' ⟨p, F', S', h1, h2, h3, h4, h5, h6⟩
    obtain ⟨cc, R, rfl, i1, i2, i3⟩ := h3 n1
    rw [n2, n3] at h4
    rw [n1] at h1
    exact ⟨cc, R, F', S', h1, i1, i3, h4, (hG.mono (by have := hX.size; omega)).trans h6.bel⟩)
  have C4 := Lib.hid (show ∀ X cc g s F S R, Below N w X → Lz M C N X g s D1 Z1 F S → K.Is N X cc s ⟨10, 4, 0, 0, false⟩ one04 R → (∀ b, R b → ¬ Or2 F S b) → Calls Tryz.prog 13 #[.pointer (some ⟨cc, 0, none⟩)] X fun e w' =>
      ∃ F' S', e = .returned (.tuple #[.int .u64 0, .int .i64 0]) ∧ Lz M C N w' g s D2 Z2 F' S' ∧ Below N X w' from fun X cc g s F S R hX hL hI ha => by
    refine (K.take N X cc s g _ one04 D1 Z1 F S R (OKN.out X hX) hL hI ha (Cn.fresh_ok (by decide)) (by omega)).mono ?_
    rintro e w' ⟨F', S', R', h1, h2, h3, h4, h5, h6⟩
    rw [t1, t2] at h1
    rw [t3, t4] at h2
    exact ⟨F', S', h1, h2, h6.bel⟩)
  have C5 := Lib.hid (show ∀ X g s F S, Below N w X → Lz M C N X g s D2 Z2 F S → Calls Tryz.prog 21 #[.pointer (some ⟨s, 0, none⟩)] X fun e w' =>
      ∃ cc R F' S', e = .returned (.tuple #[.pointer (some ⟨cc, 0, none⟩), .int .i64 0]) ∧ K.Is N w' cc s ⟨10, 4, 4, 4, false⟩ one04 R ∧ (∀ b, R b → ¬ Or2 F' S' b) ∧ Lz M C N w' g s D2 Z2 F' S' ∧ Below N X w' from fun X g s F S hX hL => by
    refine (K.opn N X s g D2 Z2 F S (OKN.out X hX) hL).mono ?_
    rintro e w' ⟨p, F', S', h1, h2, h3, h4, h5, h6⟩
    obtain ⟨cc, R, rfl, i1, i2, i3⟩ := h3 o1
    rw [o1] at h1
    rw [o2, o3] at i1
    rw [o4] at h4
    exact ⟨cc, R, F', S', h1, i1, i3, h4, h6.bel⟩)
  have C6 := Lib.hid (show ∀ X cc g s F S R, Below N w X → Lz M C N X g s D2 Z2 F S → K.Is N X cc s ⟨10, 4, 4, 4, false⟩ one04 R → (∀ b, R b → ¬ Or2 F S b) → Calls Tryz.prog 13 #[.pointer (some ⟨cc, 0, none⟩)] X fun e w' =>
      ∃ F' S' R', e = .returned (.tuple #[.int .u64 4, .int .i64 0]) ∧ Lz M C N w' g s D3 Z3 F' S' ∧ K.Is N w' cc s ⟨10, 4, 8, 5, false⟩ one04 R' ∧ (∀ b, R' b → ¬ Or2 F' S' b) ∧ Below N X w' from fun X cc g s F S R hX hL hI ha => by
    refine (K.take N X cc s g _ one04 D2 Z2 F S R (OKN.out X hX) hL hI ha ⟨by decide, by decide⟩ (by omega)).mono ?_
    rintro e w' ⟨F', S', R', h1, h2, h3, h4, h5, h6⟩
    rw [s1, s2] at h1
    rw [s3, s4] at h2
    rw [s5] at h3
    exact ⟨F', S', R', h1, h2, h3, h4, h6.bel⟩)
  have C7 := Lib.hid (show ∀ X cc g s F S R, Below N w X → Lz M C N X g s D3 Z3 F S → K.Is N X cc s ⟨10, 4, 8, 5, false⟩ one04 R → (∀ b, R b → ¬ Or2 F S b) → Calls Tryz.prog 10 #[.pointer (some ⟨s, 0, none⟩), .slice none 0 0, .int .u64 10, .int .u64 4] X fun e w' =>
      e = .returned (.tuple #[.pointer none, .int .i64 10]) ∧ K.Is N w' cc s ⟨10, 4, 8, 5, false⟩ one04 R ∧ Below N X w' from fun X cc g s F S R hX hL hI ha => by
    refine (K.new N X s g D3 Z3 F S none 0 0 [] 10 4 (fun Y hY => OKN.out Y (hX.trans hY)) hL (Rd.nil_ X) (fun a h _ => absurd h (by omega)) (by omega) (by omega) (by omega) (by omega)).mono ?_
    rintro e w' ⟨p, F', S', h1, h2, h3, h4, h5, h6⟩
    obtain rfl := h2 (by rw [e1]; omega)
    rw [e1] at h1
    refine ⟨h1, K.keep hI h6.size fun b hb hlt => h6.same b hlt fun hO => ?_, h6.bel⟩
    rcases hb with q | q
    · have := (hL.lt b hO).1; omega
    · exact ha b q hO)
  have C8 := Lib.hid (show ∀ X cc s R, Below N w X → K.Is N X cc s ⟨10, 4, 8, 5, false⟩ one04 R → Calls Tryz.prog 27 #[.pointer (some ⟨cc, 0, none⟩)] X fun e w' => ∃ A c, e = .returned (.slice A 1 c) ∧ Rd w' A 1 c one04 ∧ K.Is N w' cc s ⟨10, 4, 8, 5, false⟩ one04 R ∧ Below N w w' from
    fun X cc s R hX hI => (K.head N X cc s _ one04 R (OKN.out X hX) hI).mono fun e w' ⟨A, c, h1, h2, h4⟩ => ⟨A, c, h1, Rd.own h2, K.keep hI h4.size fun b _ hlt => h4.block b hlt, BN.out _ _ hX h4⟩)
  have C9 := Lib.hid (show ∀ X cc s R, Below N w X → K.Is N X cc s ⟨10, 4, 8, 5, false⟩ one04 R → Calls Tryz.prog 25 #[.pointer (some ⟨cc, 0, none⟩)] X fun e w' => e = .returned (.agg #[.int .u64 10, .int .u64 4, .int .u64 8, .int .u64 5, .bool false]) ∧ Below N w w' from
    fun X cc s R hX hI => (K.state N X cc s _ one04 R (OKN.out X hX) hI).mono fun e w' ⟨h1, h4⟩ => ⟨h1, BN.out _ _ hX h4⟩)
  have EQ : ∀ W, (binOp .eql 46 (.agg #[.int .u64 10, .int .u64 4, .int .u64 8, .int .u64 5, .bool false]) (.agg #[.int .u64 10, .int .u64 4, .int .u64 8, .int .u64 5, .bool false])).run Tryz.prog W = .ok (.bool true) W := fun W => run_eql_Cn ⟨10, 4, 8, 5, false⟩ ⟨10, 4, 8, 5, false⟩ W
  have kc := fun (w : World) (C : Array Value) (n c : Nat) => Lib.run_convert_bytes_const (P := Tryz.prog) w 23 5 C n c Tryz.underlying23 Tryz.underlying5
  clear n1 n2 n3 t1 t2 t3 t4 t5 o1 o2 o3 o4 s1 s2 s3 s4 s5 e1 d1 d2 d3 hk
  go_enter Tryz.func5, Tryz.ntmps5
  go_upto_region 16 with (first
    | (go_at_call 6; ((with_reducible refine C1.out.mono ?_); rintro e w1 ⟨g, F1, rfl, i1, b1⟩; have I1 := Lib.hid i1; have B1 := Lib.hid b1; clear i1 b1))
    | (go_at_call 8; ((with_reducible refine (C2.out w1 g F1 B1.out I1.out).mono ?_); rintro e w2 ⟨s, F2, S2, rfl, i2, b2⟩; have I2 := Lib.hid i2; have B2 := Lib.hid (B1.out.trans b2); clear i2 b2))
    | (go_at_call 10; ((with_reducible refine (C7.out w6 oo g s F6 S6 R6 B6.out L6.out I6.out A6.out).mono ?_); rintro e w7 ⟨rfl, i7, b7⟩; have I7 := Lib.hid i7; have B7 := Lib.hid (B6.out.trans b7); clear i7 b7))
    | (go_at_call 10; ((refine (C3.out w2 g s F2 S2 B2.out I2.out).mono ?_); rintro e w3 ⟨cc, R3, F3, S3, rfl, i3, a3, l3, b3⟩; have I3 := Lib.hid i3; have A3 := Lib.hid a3; have L3 := Lib.hid l3; have B3 := Lib.hid (B2.out.trans b3); clear i3 a3 l3 b3))
    | (go_at_call 13; ((with_reducible refine (C4.out w3 cc g s F3 S3 R3 B3.out L3.out I3.out A3.out).mono ?_); rintro e w4 ⟨F4, S4, rfl, l4, b4⟩; have L4 := Lib.hid l4; have B4 := Lib.hid (B3.out.trans b4); clear l4 b4))
    | (go_at_call 21; ((with_reducible refine (C5.out w4 g s F4 S4 B4.out L4.out).mono ?_); rintro e w5 ⟨oo, R5, F5, S5, rfl, i5, a5, l5, b5⟩; have I5 := Lib.hid i5; have A5 := Lib.hid a5; have L5 := Lib.hid l5; have B5 := Lib.hid (B4.out.trans b5); clear i5 a5 l5 b5))
    | (go_at_call 13; ((with_reducible refine (C6.out w5 oo g s F5 S5 R5 B5.out L5.out I5.out A5.out).mono ?_); rintro e w6 ⟨F6, S6, R6, rfl, l6, i6, a6, b6⟩; have L6 := Lib.hid l6; have I6 := Lib.hid i6; have A6 := Lib.hid a6; have B6 := Lib.hid (B5.out.trans b6); clear l6 i6 a6 b6)))
  have EC := Lib.hid EQ
  go_wp2_with (first
    | (go_at_call 27; ((with_reducible refine (C8.out w7 oo s R6 B7.out I7.out).mono ?_); rintro e w8 ⟨A8, c8, rfl, r8, i8, b8⟩; have V8 := rd_convert r8; simp only [one04] at V8; have I8 := Lib.hid i8; have B8 := Lib.hid b8; clear i8 b8 r8))
    | (go_at_call 25; ((with_reducible refine (C9.out w8 oo s R6 B8.out I8.out).mono ?_); rintro e w9 ⟨rfl, b9⟩; have B9 := Lib.hid b9; clear b9)))
  go_ret
  exact ⟨rfl, by first | exact B9.out | (rw [HN.out]; exact B9.out)⟩
end Go.Proofs.YtnoflgkjdibblaaGreatDoor.S21

/-
  A counter at rest, on a disk with which nothing fails, in plain words: a number is taken, the power goes and comes, it is opened anew. No statement is proved here.
-/
namespace Go.Proofs.YtnoflgkjdibblaaGreatDoor.S21
set_option linter.unusedSimpArgs false
set_option linter.unusedVariables false
set_option maxRecDepth 8192
open S19 S20

/-- A counter that isn't retired, with its head h, over slots and a disk at rest: what was saved last is what it is. -/
structure At (x : Cn) (h : List UInt8) (Z : Sl) (D : Dk) : Prop where
  fine : Fine Z D
  first : Z.first = 0
  n : Z.n = 8
  ok : x.Ok h.length
  live : x.gone = false
  there : ∀ Y : Sl, Y.first = 0 → Y.n = 8 → Y.loadC D = 0 ∧ Y.load D = Z ∧ Y.loadB D = x.row h
theorem Cn.Ok.head {x : Cn} {n : Nat} (h : x.Ok n) : n ≤ 200 := by have := h.may; unfold Cn.May at this; omega
theorem At.new {tot bat : Nat} {h : List UInt8} (m : (Cn.fresh tot bat).May h.length) : ∃ Z D, Cn.newC tot bat h aZ0 aD0 = 0 ∧ Cn.newZ tot bat h aZ0 aD0 = Z ∧ Cn.newD tot bat h aZ0 aD0 = D ∧ At (Cn.fresh tot bat) h Z D ∧ Z.num = 1 ∧ D.cnt = 9 := by
  have f0 : Fine aZ0 aD0 := Fine.new (by omega) (by omega) (by omega)
  obtain ⟨l1, l2⟩ := load_new (k := 16) (Z := aZ0) (by show 0 + 2 * 8 ≤ 16; omega) rfl rfl rfl
  have l1' : aZ0.loadC aD0 = 11 := l1
  have l2' : aZ0.load aD0 = aZ0 := l2
  have z1 : aZ0.n = 8 := rfl
  have hl : h.length ≤ 200 := by unfold Cn.May at m; omega
  obtain ⟨Z1, D1, p1, p2, p3, f1, a1, b1, d1, c1, o1⟩ := f0.next (b := (Cn.fresh tot bat).row h) (Fine.row_fits z1 _ hl) (by show 0 + 1 < _; omega)
  refine ⟨Z1, D1, ?_, ?_, ?_, ⟨f1, d1, a1, Cn.fresh_ok m, rfl, fun Y h1 h2 => o1 Y ⟨h1, h2⟩⟩, b1, c1⟩
  · rw [Cn.newC, if_pos m, if_neg (by rw [l1']; omega), if_pos l1', l2']; exact p3
  · rw [Cn.newZ, if_pos m, if_pos l1', l2']; exact p1
  · rw [Cn.newD, if_pos m, if_pos l1', l2']; exact p2
section
variable {x : Cn} {h : List UInt8} {Z : Sl} {D : Dk}
/-- None is left. -/
theorem At.out (a : At x h Z D) (q : x.tot ≤ x.nxt) : x.takeC h Z D = 9 ∧ x.takeN h Z D = 0 ∧ x.take h Z D = x ∧ x.takeZ h Z D = Z ∧ x.takeD h Z D = D := by
  have hl := a.live
  have e : x.takeC h Z D = 9 := by rw [Cn.takeC, if_neg (by rw [hl]; simp), if_pos q]
  have m : x.must = false := by simp [Cn.must]; omega
  refine ⟨e, by rw [Cn.takeN, e]; rfl, by rw [Cn.take, e]; rfl, by rw [Cn.takeZ, m]; rfl, by rw [Cn.takeD, m]; rfl⟩
/-- One that is reserved is taken. -/
theorem At.one (a : At x h Z D) (q : x.nxt < x.res) : x.takeC h Z D = 0 ∧ x.takeN h Z D = x.nxt ∧ x.take h Z D = x.next ∧ x.takeZ h Z D = Z ∧ x.takeD h Z D = D ∧ At x.next h Z D := by
  have hl := a.live
  have hm := a.ok.may
  unfold Cn.May at hm
  have e : x.takeC h Z D = 0 := by rw [Cn.takeC, if_neg (by rw [hl]; simp), if_neg (by omega), if_neg (by omega)]
  have m : x.must = false := by simp [Cn.must]; omega
  refine ⟨e, by rw [Cn.takeN, e]; rfl, by rw [Cn.take, e, m]; rfl, by rw [Cn.takeZ, m]; rfl, by rw [Cn.takeD, m]; rfl, ⟨a.fine, a.first, a.n, ⟨a.ok.may, q⟩, a.live, a.there⟩⟩
/-- A batch more is reserved, and one is taken. -/
theorem At.more (a : At x h Z D) (q : x.res ≤ x.nxt) (q2 : x.nxt < x.tot) (hn : Z.num + 1 < 18446744073709551616) : ∃ Z' D', x.takeC h Z D = 0 ∧ x.takeN h Z D = x.nxt ∧ x.take h Z D = x.more.next ∧ x.takeZ h Z D = Z' ∧ x.takeD h Z D = D' ∧ At x.more.next h Z' D' ∧ Z'.num = Z.num + 1 ∧ D'.cnt = D.cnt + 9 := by
  have hl := a.live
  have hm := a.ok.may
  obtain ⟨Z1, D1, p1, p2, p3, f1, a1, b1, d1, c1, o1⟩ := a.fine.next (b := x.more.row h) (Fine.row_fits a.n _ a.ok.head) hn
  have e : x.takeC h Z D = 0 := by rw [Cn.takeC, if_neg (by rw [hl]; simp), if_neg (by omega), if_pos q]; exact p3
  have m : x.must = true := by simp [Cn.must, hl]; omega
  refine ⟨Z1, D1, e, by rw [Cn.takeN, e]; rfl, by rw [Cn.take, e, m]; rfl, by rw [Cn.takeZ, m]; exact p1, by rw [Cn.takeD, m]; exact p2, ⟨f1, d1.trans a.first, a1.trans a.n, ⟨Cn.more_may hm, ?_⟩, a.live, fun Y h1 h2 => o1 Y ⟨h1.trans a.first.symm, h2.trans a.n.symm⟩⟩, b1, by rw [c1, a.n]⟩
  unfold Cn.May at hm
  have hle := a.ok.le
  show x.nxt + 1 ≤ (if x.tot < x.res + x.bat then x.tot else x.res + x.bat)
  split <;> omega
/-- The power goes and comes, with no plan. -/
theorem At.up (a : At x h Z D) (ch : List UInt8) : D.up ch [] 0 = { D with cnt := 0 } ∧ At x h Z { D with cnt := 0 } := by
  have hc := a.fine.calm
  have hp := a.fine.pend
  have ha : ∀ (Y : Sl) i, Y.area { D with cnt := 0 } i = Y.area D i := fun Y i => areaK_same Y.n fun j _ => rfl
  have hs : ∀ Y : Sl, Y.seen { D with cnt := 0 } = Y.seen D := fun Y => by
    unfold Sl.seen Sl.look
    rw [ha, ha]
  have hC : ∀ Y : Sl, Y.loadC { D with cnt := 0 } = Y.loadC D := fun Y => by
    unfold Sl.loadC
    rw [hs, ha, ha]
  have hL : ∀ Y : Sl, Y.load { D with cnt := 0 } = Y.load D := fun Y => by
    unfold Sl.load
    rw [hs]
  have hB : ∀ Y : Sl, Y.loadB { D with cnt := 0 } = Y.loadB D := fun Y => by
    unfold Sl.loadB
    rw [hC, hL]
  refine ⟨?_, ⟨⟨⟨hc.off, hc.stop, hc.fails⟩, hp, ⟨a.fine.ok.one, a.fine.ok.most, a.fine.ok.fits, a.fine.ok.at_, a.fine.ok.num⟩, by rw [ha]; exact a.fine.low⟩, a.first, a.n, a.ok, a.live, fun Y h1 h2 => by rw [hC, hL, hB]; exact a.there Y h1 h2⟩⟩
  cases D
  have h1 := hc.off
  have h2 := hc.stop
  have h3 := hc.fails
  simp only at h1 h2 h3 hp
  subst h1 h2 h3 hp
  rfl
/-- It is opened anew. -/
theorem At.opn (a : At x h Z D) (Y : Sl) (h1 : Y.first = 0) (h2 : Y.n = 8) : Cn.openC Y D = 0 ∧ Cn.openX Y D = { x with nxt := x.res } ∧ Cn.openH Y D = h ∧ Y.load D = Z ∧ At { x with nxt := x.res } h Z D := by
  obtain ⟨u1, u2, u3⟩ := a.there Y h1 h2
  have fx := a.ok.fit
  refine ⟨by rw [Cn.openC, if_pos u1, u3]; exact Cn.read_row x h fx a.ok.may, by rw [Cn.openX, u3, Cn.ofB_row x h fx], by rw [Cn.openH, u3, Cn.row_f], u2, ⟨a.fine, a.first, a.n, ⟨a.ok.may, Nat.le_refl _⟩, a.live, a.there⟩⟩
end
/-- So many were taken, with nothing lost: how many batches were saved. -/
structure Al (n b i k : Nat) (x : Cn) (Z : Sl) (D : Dk) : Prop where
  at_ : At x [] Z D
  tot : x.tot = n
  bat : x.bat = b
  nxt : x.nxt = i
  res : x.res = if n < b * k then n else b * k
  lo : i ≤ b * k
  hi : b * k < i + b
  num : Z.num = 1 + k
  cnt : D.cnt = 9 * (1 + k)
theorem Al.div {n b i k : Nat} (hb : 0 < b) (h1 : i < b * k) (h2 : b * k < i + 1 + b) : 1 + k = 2 + i / b := by
  have h3 : 0 < k := by
    rcases Nat.eq_zero_or_pos k with h | h
    · subst h; omega
    · exact h
  obtain ⟨m, rfl⟩ : ∃ m, k = m + 1 := ⟨k - 1, by omega⟩
  rw [Nat.mul_add, Nat.mul_one] at h1 h2
  have : i / b = m := by
    rw [Nat.div_eq_iff hb]
    rw [Nat.mul_comm m b]
    omega
  omega
theorem Al.step {n b i k : Nat} {x : Cn} {Z : Sl} {D : Dk} (t : Al n b i k x Z D) (hi : i < n) (hn : n ≤ 60) (hb : 0 < b) (hb2 : b ≤ 70) :
    ∃ Z' D' x' k', x.takeC [] Z D = 0 ∧ x.takeN [] Z D = i ∧ x.take [] Z D = x' ∧ x.takeZ [] Z D = Z' ∧ x.takeD [] Z D = D' ∧ Al n b (i + 1) k' x' Z' D' ∧ Z'.num = 2 + i / b := by
  have hk : k ≤ 60 := by
    have h1 := t.hi
    rcases Nat.lt_or_ge 60 k with h | h
    · have : b * 61 ≤ b * k := Nat.mul_le_mul_left b h
      omega
    · exact h
  by_cases q : x.nxt < x.res
  · obtain ⟨e1, e2, e3, e4, e5, e6⟩ := t.at_.one q
    have hik : i < b * k := by
      have h1 := t.res
      have h2 := t.nxt
      split at h1 <;> omega
    have hd := Al.div (n := n) hb hik (by have := t.hi; omega)
    exact ⟨Z, D, x.next, k, e1, by rw [e2, t.nxt], e3, e4, e5, ⟨e6, t.tot, t.bat, by show x.nxt + 1 = _; rw [t.nxt], t.res, by omega, by have := t.hi; omega, t.num, t.cnt⟩, by rw [t.num]; exact hd⟩
  · have hr := t.res
    have hx := t.nxt
    have hlo := t.lo
    have hhi := t.hi
    have ht := t.tot
    have hbk : b * k = i := by split at hr <;> omega
    obtain ⟨Z', D', e1, e2, e3, e4, e5, e6, e7, e8⟩ := t.at_.more (by omega) (by omega) (by rw [t.num]; omega)
    have hd := Al.div (n := n) (k := k + 1) (i := i) hb (by rw [Nat.mul_add, hbk]; omega) (by rw [Nat.mul_add, hbk]; omega)
    refine ⟨Z', D', x.more.next, k + 1, e1, by rw [e2, hx], e3, e4, e5, ⟨e6, t.tot, t.bat, by show x.nxt + 1 = _; rw [hx], ?_, by rw [Nat.mul_add, hbk]; omega, by rw [Nat.mul_add, hbk]; omega, by rw [e7, t.num]; omega, by rw [e8, t.cnt]; omega⟩, by rw [e7, t.num]; omega⟩
    show (if x.tot < x.res + x.bat then x.tot else x.res + x.bat) = _
    have hres : x.res = i := by split at hr <;> omega
    rw [hres, t.tot, t.bat, Nat.mul_add, hbk, Nat.mul_one]
theorem Al.start {n b : Nat} (h1 : 0 < n) (h2 : n ≤ 60) (h3 : 0 < b) (h4 : b ≤ 70) : ∃ Z D, Cn.newC n b [] aZ0 aD0 = 0 ∧ Cn.newZ n b [] aZ0 aD0 = Z ∧ Cn.newD n b [] aZ0 aD0 = D ∧ Al n b 0 0 (Cn.fresh n b) Z D := by
  obtain ⟨Z, D, e1, e2, e3, e4, e5, e6⟩ := At.new (tot := n) (bat := b) (h := []) (by unfold Cn.May Cn.fresh; simp; omega)
  exact ⟨Z, D, e1, e2, e3, e4, rfl, rfl, rfl, by simp [Cn.fresh], by omega, by omega, by rw [e5], by rw [e6]⟩
/-- At the end all were reserved. -/
theorem Al.full {n b k : Nat} {x : Cn} {Z : Sl} {D : Dk} (t : Al n b n k x Z D) : x.res = n ∧ x.nxt = n ∧ x.tot = n := by
  have h1 := t.res
  have h2 := t.lo
  refine ⟨?_, t.nxt, t.tot⟩
  split at h1 <;> omega
end Go.Proofs.YtnoflgkjdibblaaGreatDoor.S21

/-
  With losses of power alone, between numbers: what was given out and what was skipped, in plain words. No statement is proved here.
-/
namespace Go.Proofs.YtnoflgkjdibblaaGreatDoor.S21
set_option linter.unusedSimpArgs false
set_option linter.unusedVariables false
set_option maxRecDepth 8192
open S19 S20

/-- Behind so many steps. -/
structure Lo (b i gv sk : Nat) (x : Cn) (Z : Sl) (D : Dk) : Prop where
  at_ : At x [] Z D
  tot : x.tot = 40
  bat : x.bat = b
  few : x.res < x.nxt + b
  sum : gv + sk = x.nxt
  num : Z.num ≤ 1 + i
  cnt : D.cnt ≤ 9 * (1 + i)
theorem Lo.start {b : Nat} (h3 : 0 < b) (h4 : b ≤ 9) : ∃ Z D, Cn.newC 40 b [] aZ0 aD0 = 0 ∧ Cn.newZ 40 b [] aZ0 aD0 = Z ∧ Cn.newD 40 b [] aZ0 aD0 = D ∧ Lo b 0 0 0 (Cn.fresh 40 b) Z D := by
  obtain ⟨Z, D, e1, e2, e3, e4, e5, e6⟩ := At.new (tot := 40) (bat := b) (h := []) (by unfold Cn.May Cn.fresh; simp; omega)
  exact ⟨Z, D, e1, e2, e3, e4, rfl, rfl, by show 0 < 0 + b; omega, rfl, by omega, by omega⟩
section
variable {b i gv sk : Nat} {x : Cn} {Z : Sl} {D : Dk}
theorem Lo.below (t : Lo b i gv sk x Z D) : x.nxt ≤ x.res ∧ x.res ≤ 40 := by
  have h1 := t.at_.ok.le
  have h2 := t.at_.ok.may
  unfold Cn.May at h2
  have := t.tot
  omega
theorem Lo.out (t : Lo b i gv sk x Z D) (q : 40 ≤ x.nxt) : x.takeC [] Z D = 9 ∧ x.takeN [] Z D = 0 ∧ gv + sk = 40 := by
  obtain ⟨e1, e2, _⟩ := t.at_.out (by rw [t.tot]; exact q)
  exact ⟨e1, e2, by have := t.below; have := t.sum; omega⟩
theorem Lo.take (t : Lo b i gv sk x Z D) (q : x.nxt < 40) (hi : i < 60) : ∃ Z' D' x', x.takeC [] Z D = 0 ∧ x.takeN [] Z D = gv + sk ∧ x.take [] Z D = x' ∧ x.takeZ [] Z D = Z' ∧ x.takeD [] Z D = D' ∧ Lo b (i + 1) (gv + 1) sk x' Z' D' := by
  have hs := t.sum
  have hf := t.few
  by_cases q2 : x.nxt < x.res
  · obtain ⟨e1, e2, e3, e4, e5, e6⟩ := t.at_.one q2
    exact ⟨Z, D, x.next, e1, by rw [e2, hs], e3, e4, e5, ⟨e6, t.tot, t.bat, by show x.res < x.nxt + 1 + b; omega, by show gv + 1 + sk = x.nxt + 1; omega, by have := t.num; omega, by have := t.cnt; omega⟩⟩
  · obtain ⟨Z', D', e1, e2, e3, e4, e5, e6, e7, e8⟩ := t.at_.more (by omega) (by rw [t.tot]; exact q) (by have := t.num; omega)
    refine ⟨Z', D', x.more.next, e1, by rw [e2, hs], e3, e4, e5, ⟨e6, t.tot, t.bat, ?_, by show gv + 1 + sk = x.nxt + 1; omega, by have := t.num; omega, by have := t.cnt; omega⟩⟩
    show (if x.tot < x.res + x.bat then x.tot else x.res + x.bat) < x.nxt + 1 + b
    have := t.bat
    have := t.below
    split <;> omega
theorem Lo.lose (t : Lo b i gv sk x Z D) : D.up [] [] 0 = { D with cnt := 0 } ∧ At x [] Z { D with cnt := 0 } ∧ ∀ Y : Sl, Y.first = 0 → Y.n = 8 → Cn.openC Y { D with cnt := 0 } = 0 ∧ Cn.openX Y { D with cnt := 0 } = { x with nxt := x.res } ∧ Cn.openH Y { D with cnt := 0 } = [] ∧ Y.load { D with cnt := 0 } = Z ∧ Lo b (i + 1) gv (sk + x.res - x.nxt) { x with nxt := x.res } Z { D with cnt := 0 } := by
  obtain ⟨e1, e2⟩ := t.at_.up []
  refine ⟨e1, e2, fun Y h1 h2 => ?_⟩
  obtain ⟨o1, o2, o3, o4, o5⟩ := e2.opn Y h1 h2
  have hs := t.sum
  have hb := t.below
  have hf := t.few
  exact ⟨o1, o2, o3, o4, ⟨o5, t.tot, t.bat, by show x.res < x.res + b; omega, by show gv + (sk + x.res - x.nxt) = x.res; omega, by have := t.num; omega, by show 0 ≤ _; omega⟩⟩
end
/-- So many were taken of a hundred, by three. -/
structure Hd (i : Nat) (h : List UInt8) (x : Cn) (Z : Sl) (D : Dk) : Prop where
  at_ : At x h Z D
  tot : x.tot = 100
  nxt : x.nxt = i
  num : Z.num ≤ 1 + i
  cnt : D.cnt ≤ 9 * (1 + i)
theorem Hd.start {h : List UInt8} (hl : h.length ≤ 200) : ∃ Z D, Cn.newC 100 3 h aZ0 aD0 = 0 ∧ Cn.newZ 100 3 h aZ0 aD0 = Z ∧ Cn.newD 100 3 h aZ0 aD0 = D ∧ Hd 0 h (Cn.fresh 100 3) Z D := by
  obtain ⟨Z, D, e1, e2, e3, e4, e5, e6⟩ := At.new (tot := 100) (bat := 3) (h := h) (by unfold Cn.May Cn.fresh; simp; omega)
  exact ⟨Z, D, e1, e2, e3, e4, rfl, rfl, by omega, by omega⟩
theorem Hd.step {i : Nat} {h : List UInt8} {x : Cn} {Z : Sl} {D : Dk} (t : Hd i h x Z D) (hi : i < 20) : ∃ Z' D' x', x.takeC h Z D = 0 ∧ x.takeN h Z D = i ∧ x.take h Z D = x' ∧ x.takeZ h Z D = Z' ∧ x.takeD h Z D = D' ∧ Hd (i + 1) h x' Z' D' := by
  have hx := t.nxt
  have ht := t.tot
  by_cases q2 : x.nxt < x.res
  · obtain ⟨e1, e2, e3, e4, e5, e6⟩ := t.at_.one q2
    exact ⟨Z, D, x.next, e1, by rw [e2, hx], e3, e4, e5, ⟨e6, t.tot, by show x.nxt + 1 = _; rw [hx], by have := t.num; omega, by have := t.cnt; omega⟩⟩
  · obtain ⟨Z', D', e1, e2, e3, e4, e5, e6, e7, e8⟩ := t.at_.more (by omega) (by omega) (by have := t.num; omega)
    exact ⟨Z', D', x.more.next, e1, by rw [e2, hx], e3, e4, e5, ⟨e6, t.tot, by show x.nxt + 1 = _; rw [hx], by have := t.num; omega, by have := t.cnt; omega⟩⟩
theorem Hd.opn {i : Nat} {h : List UInt8} {x : Cn} {Z : Sl} {D : Dk} (t : Hd i h x Z D) (Y : Sl) (h1 : Y.first = 0) (h2 : Y.n = 8) : Cn.openC Y D = 0 ∧ (Cn.openX Y D).tot = 100 ∧ Cn.openH Y D = h ∧ Y.load D = Z := by
  obtain ⟨o1, o2, o3, o4, _⟩ := t.at_.opn Y h1 h2
  exact ⟨o1, by rw [o2]; exact t.tot, o3, o4⟩
end Go.Proofs.YtnoflgkjdibblaaGreatDoor.S21

/-
  A counter, its slots and its disk in memory, apart; what the calls on them come to. No statement is proved here.
-/
namespace Go.Proofs.YtnoflgkjdibblaaGreatDoor.S21
set_option linter.unusedSimpArgs false
set_option linter.unusedVariables false
set_option maxRecDepth 8192
open Go.RowKit S19 S20

theorem cn_fd0 (a b c d : Int) (e : Bool) (W : World) : (Instr.field 46 (.agg #[.int .u64 a, .int .u64 b, .int .u64 c, .int .u64 d, .bool e]) 0).run Tryz.prog W = .ok (.int .u64 a) W := by kernel_rfl
theorem cn_fd2 (a b c d : Int) (e : Bool) (W : World) : (Instr.field 46 (.agg #[.int .u64 a, .int .u64 b, .int .u64 c, .int .u64 d, .bool e]) 2).run Tryz.prog W = .ok (.int .u64 c) W := by kernel_rfl
theorem cn_fd3 (a b c d : Int) (e : Bool) (W : World) : (Instr.field 46 (.agg #[.int .u64 a, .int .u64 b, .int .u64 c, .int .u64 d, .bool e]) 3).run Tryz.prog W = .ok (.int .u64 d) W := by kernel_rfl
/-- The landed counter, slots and disk, apart. -/
structure Lv (M : DC) (C : SlC M) (K : RvC M C) (N : Nat) (w : World) (g s cc : Nat) (x : Cn) (h : List UInt8) (Z : Sl) (D : Dk) (F S R : Nat → Prop) : Prop where
  lz : Lz M C N w g s D Z F S
  is : K.Is N w cc s x h R
  ap : ∀ b, R b → ¬ Or2 F S b
section
variable {M : DC} {C : SlC M} {K : RvC M C} {N : Nat} {w w' X : World} {g s cc : Nat} {x : Cn} {h : List UInt8} {Z : Sl} {D : Dk} {F S R : Nat → Prop}
theorem Lv.grow (t : Lv M C K N w g s cc x h Z D F S R) (hb : Below w.heap.size w w') : Lv M C K N w' g s cc x h Z D F S R :=
  ⟨t.lz.grow hb, K.keep t.is hb.size fun b _ hl => hb.block b hl, t.ap⟩
theorem Lv.lt (t : Lv M C K N w g s cc x h Z D F S R) : ∀ b, Or3 F S R b → N ≤ b ∧ b < w.heap.size := by
  rintro b (e | e | e)
  · exact t.lz.lt b (.inl e)
  · exact t.lz.lt b (.inr e)
  · exact K.lt t.is b e
theorem Lv.keep (t : Lv M C K N w g s cc x h Z D F S R) (hs : w.heap.size ≤ w'.heap.size) (hk : ∀ b, (b < N ∨ Or3 F S R b) → b < w.heap.size → w'.heap[b]? = w.heap[b]?) : Lv M C K N w' g s cc x h Z D F S R :=
  ⟨⟨M.keep t.lz.is hs fun b hb hl => hk b (hb.imp id .inl) hl, C.keep t.lz.sl hs fun b hb hl => hk b (hb.imp id (fun e => .inr (.inl e))) hl, t.lz.dj, t.lz.zo⟩, K.keep t.is hs fun b hb hl => hk b (hb.imp id (fun e => .inr (.inr e))) hl, t.ap⟩
/-- The slots have moved, and the disk; the counter hasn't. -/
theorem Lv.under (t : Lv M C K N w g s cc x h Z D F S R) {Z' : Sl} {D' : Dk} {F' S' : Nat → Prop} (hL : Lz M C N w' g s D' Z' F' S') (hs : ∀ b, Or2 F' S' b → Or2 F S b ∨ w.heap.size ≤ b) (m : Mv N (Or2 F S) w w') : Lv M C K N w' g s cc x h Z' D' F' S' R := by
  refine ⟨hL, K.keep t.is m.size fun b hb hl => m.same b hl fun hO => ?_, fun b hb hO => ?_⟩
  · rcases hb with e | e
    · have := (t.lz.lt b hO).1; omega
    · exact t.ap b e hO
  · rcases hs b hO with e | e
    · exact t.ap b hb e
    · have := (K.lt t.is b hb).2; omega
theorem Lv.take (t : Lv M C K N X g s cc x h Z D F S R) (hk : K.ok X) (ho : x.Ok h.length) (hc : D.cnt < 1099511600000) : Calls Tryz.prog 13 #[.pointer (some ⟨cc, 0, none⟩)] X fun e w' =>
    ∃ F' S' R', e = .returned (.tuple #[.int .u64 (x.takeN h Z D : Int), .int .i64 (x.takeC h Z D : Int)]) ∧ Lv M C K N w' g s cc (x.take h Z D) h (x.takeZ h Z D) (x.takeD h Z D) F' S' R' ∧ (∀ b, Or3 F' S' R' b → Or3 F S R b ∨ X.heap.size ≤ b) ∧ Mv N (Or3 F S R) X w' :=
  (K.take N X cc s g x h D Z F S R hk t.lz t.is t.ap ho hc).mono fun e w' ⟨F', S', R', h1, h2, h3, h4, h5, h6⟩ => ⟨F', S', R', h1, ⟨h2, h3, h4⟩, h5, h6⟩
theorem Lv.now (t : Lv M C K N X g s cc x h Z D F S R) (hk : K.ok X) : Calls Tryz.prog 54 #[.pointer (some ⟨s, 0, none⟩)] X fun e w' => ∃ A c, e = .returned (.tuple #[.slice A Z.b.length c, .int .u64 (Z.num : Int)]) ∧ Lv M C K N w' g s cc x h Z D F S R ∧ Below N X w' := by
  refine (C.now N X s g Z S (K.okC hk) t.lz.sl).mono fun e w' ⟨A, c, h1, h2, h0, h3, h4⟩ => ⟨A, c, h1, t.under ⟨M.keep t.lz.is h4.size fun b hb hl => h4.same b hl fun hS => ?_, h3, t.lz.dj, t.lz.zo⟩ (fun b hb => .inl hb) (h4.mono fun b hb => .inr hb), h4.bel⟩
  rcases hb with e | e
  · have := (C.lt t.lz.sl b hS).1; omega
  · exact t.lz.dj b e hS
theorem Lv.head (t : Lv M C K N X g s cc x h Z D F S R) (hk : K.ok X) : Calls Tryz.prog 27 #[.pointer (some ⟨cc, 0, none⟩)] X fun e w' => ∃ A c, e = .returned (.slice A h.length c) ∧ w'.ownsRow X.heap.size 5 1 (.slice A h.length c) h.length (bv h) ∧ Lv M C K N w' g s cc x h Z D F S R ∧ Below X.heap.size X w' :=
  (K.head N X cc s x h R hk t.is).mono fun e w' ⟨A, c, h1, h2, h4⟩ => ⟨A, c, h1, h2, t.grow h4, h4⟩
theorem Lv.state (t : Lv M C K N X g s cc x h Z D F S R) (hk : K.ok X) : Calls Tryz.prog 25 #[.pointer (some ⟨cc, 0, none⟩)] X fun e w' => e = .returned (.agg x.cells) ∧ Lv M C K N w' g s cc x h Z D F S R ∧ Below X.heap.size X w' :=
  (K.state N X cc s x h R hk t.is).mono fun e w' ⟨h1, h4⟩ => ⟨h1, t.grow h4, h4⟩
end
section
variable {M : DC} {C : SlC M} {K : RvC M C} {N : Nat} {w : World}
/-- A new disk, new slots. -/
theorem made_disk (M : DC) (C : SlC M) (K : RvC M C) (X : World) (hk : K.ok X) (hN : N ≤ X.heap.size) : Calls Tryz.prog 6 #[.int .i64 16] X fun e w' => ∃ g F, e = .returned (.tuple #[.pointer (some ⟨g, 0, none⟩), .int .i64 0]) ∧ M.Is N w' g aD0 F ∧ Below N X w' :=
  (M.new N X 16 (C.okM (K.okC hk)) hN (by omega) (by omega)).mono fun e w' ⟨g, F, h1, h2, h3, h4⟩ => ⟨g, F, h1, h2, h4.mono hN⟩
theorem made_slots (K : RvC M C) {X : World} (hk : K.ok X) {g : Nat} {D : Dk} {F : Nat → Prop} (hI : M.Is N X g D F) (hl : 16 ≤ D.sure.length) : Calls Tryz.prog 8 #[.pointer (some ⟨g, 0, none⟩), .int .i64 0, .int .i64 8] X fun e w' => ∃ s F' S', e = .returned (.tuple #[.pointer (some ⟨s, 0, none⟩), .int .i64 0]) ∧ Lz M C N w' g s D aZ0 F' S' ∧ (∀ b, Or2 F' S' b → F b ∨ X.heap.size ≤ b) ∧ Mv N F X w' :=
  (C.new N X g D F 0 8 (K.okC hk) hI (decide_eq_true (by omega))).mono fun e w' ⟨s, S, F', h1, h2, h3, h4, h5, h6, h7⟩ => ⟨s, F', S, h1, ⟨h3, h2, h6, new_ok (first := 0) (n := 8) (decide_eq_true (by omega))⟩, fun b hb => hb.elim (h5 b) (fun e => .inr (h4 b e)), h7⟩
theorem made_cn (K : RvC M C) {X : World} (hk : ∀ Y, Below N X Y → K.ok Y) {g s : Nat} {F S : Nat → Prop} (hL : Lz M C N X g s aD0 aZ0 F S) {A : Option Addr} {n c tot bat : Nat} {h : List UInt8} (hr : Rd X A n c h) (hA : ∀ a, 0 < n → A = some a → ¬ Or2 F S a.block) (ht : tot < 1000) (hb : bat < 1000) (hn : n ≤ 1000) (h0 : Cn.newC tot bat h aZ0 aD0 = 0) :
    Calls Tryz.prog 10 #[.pointer (some ⟨s, 0, none⟩), .slice A n c, .int .u64 (tot : Int), .int .u64 (bat : Int)] X fun e w' => ∃ cc F' S' R, e = .returned (.tuple #[.pointer (some ⟨cc, 0, none⟩), .int .i64 0]) ∧ Lv M C K N w' g s cc (Cn.fresh tot bat) h (Cn.newZ tot bat h aZ0 aD0) (Cn.newD tot bat h aZ0 aD0) F' S' R ∧ (∀ b, Or3 F' S' R b → Or2 F S b ∨ X.heap.size ≤ b) ∧ Mv N (Or2 F S) X w' := by
  refine (K.new N X s g aD0 aZ0 F S A n c h tot bat hk hL hr hA (by show 0 < _; omega) (by omega) (by omega) (by omega)).mono ?_
  rintro e w' ⟨p, F', S', h1, h2, h3, h4, h5, h6⟩
  obtain ⟨cc, R, rfl, i1, i2, i3⟩ := h3 h0
  rw [h0] at h1
  refine ⟨cc, F', S', R, h1, ⟨h4, i1, i3⟩, ?_, h6⟩
  rintro b (e | e | e)
  · exact h5 b (.inl e)
  · exact h5 b (.inr e)
  · exact .inr (i2 b e)
end
end Go.Proofs.YtnoflgkjdibblaaGreatDoor.S21
