/-
  Texts put together: Rv7, Rv9, SlL1, RvA, Rv5. No statement is proved here.
-/
import Derived.Test.YtnoflgkjdibblaaDoorWa11
import Derived.Test.YtnoflgkjdibblaaDoorWa05
import Derived.ChangeKeysEq
import Derived.Test.YtnoflgkjdibblaaDoorWa07
import Derived.Test.YtnoflgkjdibblaaDoorWa02

/-
  Two counters compared; two counters as bytes. No statement is proved here.
-/
namespace Go.Proofs.YtnoflgkjdibblaaDoor.S21
set_option linter.unusedSimpArgs false
set_option linter.unusedVariables false
set_option maxRecDepth 4096
open Go.RowKit S19 S20

instance : DecidableEq Cn := fun x y => by
  obtain ⟨a, b, c, d, e⟩ := x
  obtain ⟨a', b', c', d', e'⟩ := y
  exact decidable_of_iff (a = a' ∧ b = b' ∧ c = c' ∧ d = d' ∧ e = e') (by simp)
/-- Two counters as bytes are the same just if they are, but for the next number, and their heads are. -/
theorem Cn.row_same {x y : Cn} {h k : List UInt8} (fx : x.Fit) (fy : y.Fit) : x.row h = y.row k ↔ ({ x with nxt := 0 } : Cn) = { y with nxt := 0 } ∧ h = k := by
  constructor
  · intro e
    have e1 := Cn.ofB_row x h fx
    have e2 := Cn.ofB_row y k fy
    rw [e, e2] at e1
    have e3 := Cn.row_f x h
    rw [e, Cn.row_f] at e3
    refine ⟨?_, e3.symm⟩
    obtain ⟨a, b, c, d, f⟩ := x
    obtain ⟨a', b', c', d', f'⟩ := y
    simp only [Cn.mk.injEq] at e1 ⊢
    exact ⟨e1.1.symm, e1.2.1.symm, e1.2.2.1.symm, trivial, e1.2.2.2.2.symm⟩
  · rintro ⟨e, rfl⟩
    obtain ⟨a, b, c, d, f⟩ := x
    obtain ⟨a', b', c', d', f'⟩ := y
    simp only [Cn.mk.injEq] at e
    obtain ⟨rfl, rfl, rfl, -, rfl⟩ := e
    rfl
theorem part_int {T : TypeId} {k : IntKind} (hu : Tryd.prog.underlying T = some (.int k)) (cs : Array Value) (j : Nat) (n : Int) (h : cs[j]? = some (.int k n)) (W : World) : (part T cs j).run Tryd.prog W = .ok (.int k n) W := by
  simp [part, isAgg, run_underlying hu, h]
theorem eq_step (T : TypeId) (k : IntKind) (hu : Tryd.prog.underlying T = some (.int k)) (cs ds : Array Value) (j : Nat) (m n : Int) (fs : List Field) (f : Field) (h1 : f.type = T) (h2 : f.offset = j) (h3 : f.name ≠ "_") (h4 : cs[j]? = some (.int k m)) (h5 : ds[j]? = some (.int k n)) (W : World) :
    (Op.eqFields (9998 + 1) cs ds (f :: fs)).run Tryd.prog W = if (m == n) = true then (Op.eqFields (9998 + 1) cs ds fs).run Tryd.prog W else .ok false W := by
  subst h1 h2
  rw [Op.eqFields, if_pos h3]
  simp only [Sem.run_bind, part_int hu cs _ m h4 W, part_int hu ds _ n h5 W, Result.andThen_ok, run_equalIn_int W 9998 f.type k k m n hu]
  cases m == n <;> simp
theorem part_bool {T : TypeId} (hu : Tryd.prog.underlying T = some .bool) (cs : Array Value) (j : Nat) (n : Bool) (h : cs[j]? = some (.bool n)) (W : World) : (part T cs j).run Tryd.prog W = .ok (.bool n) W := by
  simp [part, isAgg, run_underlying hu, h]
theorem eq_stepB (T : TypeId) (hu : Tryd.prog.underlying T = some .bool) (cs ds : Array Value) (j : Nat) (m n : Bool) (fs : List Field) (f : Field) (h1 : f.type = T) (h2 : f.offset = j) (h3 : f.name ≠ "_") (h4 : cs[j]? = some (.bool m)) (h5 : ds[j]? = some (.bool n)) (W : World) :
    (Op.eqFields (9998 + 1) cs ds (f :: fs)).run Tryd.prog W = if (m == n) = true then (Op.eqFields (9998 + 1) cs ds fs).run Tryd.prog W else .ok false W := by
  subst h1 h2
  rw [Op.eqFields, if_pos h3]
  simp only [Sem.run_bind, part_bool hu cs _ m h4 W, part_bool hu ds _ n h5 W, Result.andThen_ok, run_equalIn_bool W 9998 f.type m n hu]
  cases m == n <;> simp
set_option maxRecDepth 10000 in
/-- '==' of two counters. -/
theorem run_eql_Cn (x y : Cn) (W : World) : (binOp .eql 24 (.agg x.cells) (.agg y.cells)).run Tryd.prog W = .ok (.bool (decide (x = y))) W := by
  obtain ⟨a, b, c, d, f⟩ := x
  obtain ⟨a', b', c', d', f'⟩ := y
  unfold Cn.cells
  rw [run_eql_struct W, show (10000 : Nat) = 9998 + 1 + 1 from rfl, run_equalIn_agg W (9998 + 1) 24 _ _ (by kernel_rfl) (by kernel_rfl)]
  simp only [Program.fieldsOf, Tryd.underlying24]
  rw [eq_step 22 .u64 Tryd.underlying22 _ _ 0 a a' _ _ rfl rfl (by decide) rfl rfl, eq_step 22 .u64 Tryd.underlying22 _ _ 1 b b' _ _ rfl rfl (by decide) rfl rfl, eq_step 22 .u64 Tryd.underlying22 _ _ 2 c c' _ _ rfl rfl (by decide) rfl rfl,
    eq_step 22 .u64 Tryd.underlying22 _ _ 3 d d' _ _ rfl rfl (by decide) rfl rfl, eq_stepB 4 Tryd.underlying4 _ _ 4 f f' _ _ rfl rfl (by decide) rfl rfl]
  have e : decide ((⟨a, b, c, d, f⟩ : Cn) = ⟨a', b', c', d', f'⟩) = ((a : Int) == a' && (b : Int) == b' && (c : Int) == c' && (d : Int) == d' && f == f') := by
    rw [Bool.eq_iff_iff]
    simp only [decide_eq_true_eq, Cn.mk.injEq, Bool.and_eq_true, beq_iff_eq, and_assoc]
    constructor
    · rintro ⟨e1, e2, e3, e4, e5⟩; exact ⟨by omega, by omega, by omega, by omega, e5⟩
    · rintro ⟨e1, e2, e3, e4, e5⟩; exact ⟨by omega, by omega, by omega, by omega, e5⟩
  rw [e]
  cases (a : Int) == a' <;> cases (b : Int) == b' <;> cases (c : Int) == c' <;> cases (d : Int) == d' <;> cases f == f' <;> rfl
end Go.Proofs.YtnoflgkjdibblaaDoor.S21

/-
  What the statements' first question of layer 21 goes through, in plain words: a disk at rest, saved upon again and again. No statement is proved here.
-/
namespace Go.Proofs.YtnoflgkjdibblaaDoor.S21
set_option linter.unusedSimpArgs false
set_option linter.unusedVariables false
set_option maxRecDepth 8192
open S19 S20

/-- Slots and a disk at rest, at which the other half is not newer. -/
structure Fine (Z : Sl) (D : Dk) : Prop where
  calm : S20.Calm D
  pend : D.pend = []
  ok : Z.Ok D
  low : (whole (Z.area D (1 - Z.goes)) Z.n).1 ≤ Z.num
theorem Fine.new {k n : Nat} (h1 : 1 ≤ n) (h8 : n ≤ 8) (hk : 2 * n ≤ k) : Fine (Sl.new 0 n) (Dk.new k) := by
  refine ⟨S20.Calm.new k, rfl, new_ok (first := 0) (n := n) (decide_eq_true (by simp [Dk.new]; omega)), ?_⟩
  rw [area_new (k := k) (Z := Sl.new 0 n) (by show 0 + 2 * n ≤ k; omega) (by omega), whole_zero]
  exact Nat.zero_le _
theorem Fine.save {Z : Sl} {D : Dk} (f : Fine Z D) {b : List UInt8} (hb : b.length ≤ room Z.n) (hn : Z.num + 1 < 18446744073709551616) :
    Z.saveC D b = 0 ∧ Z.save D b = { Z with at_ := (Z.goes : Int), num := Z.num + 1, b := b } ∧ Fine (Z.save D b) (Z.saveD D b) ∧ (Z.saveD D b).cnt = D.cnt + Z.n + 1 ∧
      ∀ Y : Sl, Y.first = Z.first ∧ Y.n = Z.n → Y.loadC (Z.saveD D b) = 0 ∧ Y.load (Z.saveD D b) = Z.save D b ∧ Y.loadB (Z.saveD D b) = b := by
  obtain ⟨s1, s2, s3, s4, s5, s6, s7⟩ := save_calm f.calm f.pend f.ok hb
  have hx : Z.next = Z.num + 1 := Nat.mod_eq_of_lt hn
  rw [hx] at s2 s6
  have hg : Z.goes = 0 ∨ Z.goes = 1 := by unfold Sl.goes; split <;> simp
  refine ⟨s1, s2, ⟨s3, s4, save_ok f.ok b, ?_⟩, s5, fun Y hy => ?_⟩
  · have ho : 1 - (Z.save D b).goes = Z.goes := by
      rw [s2]
      rcases hg with e | e
      · rw [e]; simp [Sl.goes]
      · rw [e]; simp [Sl.goes]
    rw [ho, s2]
    show (whole (Z.area (Z.saveD D b) Z.goes) Z.n).1 ≤ Z.num + 1
    rw [s6, whole_rec (by omega) hn f.ok.one f.ok.most hb]
    exact Nat.le_refl _
  · obtain ⟨h5, h6⟩ := load_saved f.calm f.pend f.ok hb hn f.low Y hy
    refine ⟨h5, by rw [h6, s2], by rw [Sl.loadB, if_pos h5, h6]⟩
theorem Fine.row_fits {Z : Sl} (h8 : Z.n = 8) (x : Cn) {h : List UInt8} (hl : h.length ≤ 200) : (x.row h).length ≤ room Z.n := by
  rw [Cn.row_len, h8, show room (8 : Nat) = 484 from by decide]
  omega
def one04 : List UInt8 := [104]
theorem Fine.next {Z : Sl} {D : Dk} (f : Fine Z D) {b : List UInt8} (hb : b.length ≤ room Z.n) (hn : Z.num + 1 < 18446744073709551616) :
    ∃ (Z' : Sl) (D' : Dk), Z.save D b = Z' ∧ Z.saveD D b = D' ∧ Z.saveC D b = 0 ∧ Fine Z' D' ∧ Z'.n = Z.n ∧ Z'.num = Z.num + 1 ∧ Z'.first = Z.first ∧ D'.cnt = D.cnt + Z.n + 1 ∧
      ∀ Y : Sl, Y.first = Z.first ∧ Y.n = Z.n → Y.loadC D' = 0 ∧ Y.load D' = Z' ∧ Y.loadB D' = b := by
  obtain ⟨h1, h2, h3, h4, h5⟩ := f.save hb hn
  exact ⟨_, _, rfl, rfl, h1, h3, by rw [h2], by rw [h2], by rw [h2], h4, h5⟩
def aZ0 : Sl := Sl.new 0 8
def aD0 : Dk := Dk.new 16
theorem aw21_facts : ∃ (Z1 : Sl) (D1 : Dk) (Z2 : Sl) (D2 : Dk) (Z3 : Sl) (D3 : Dk), (Cn.newC 10 4 one04 aZ0 aD0 = 0 ∧ Cn.newZ 10 4 one04 aZ0 aD0 = Z1 ∧ Cn.newD 10 4 one04 aZ0 aD0 = D1) ∧
    (Cn.takeC ⟨10, 4, 0, 0, false⟩ one04 Z1 D1 = 0 ∧ Cn.takeN ⟨10, 4, 0, 0, false⟩ one04 Z1 D1 = 0 ∧ Cn.takeZ ⟨10, 4, 0, 0, false⟩ one04 Z1 D1 = Z2 ∧ Cn.takeD ⟨10, 4, 0, 0, false⟩ one04 Z1 D1 = D2 ∧ Cn.take ⟨10, 4, 0, 0, false⟩ one04 Z1 D1 = ⟨10, 4, 4, 1, false⟩) ∧
    (Cn.openC Z2 D2 = 0 ∧ Cn.openX Z2 D2 = ⟨10, 4, 4, 4, false⟩ ∧ Cn.openH Z2 D2 = one04 ∧ Z2.load D2 = Z2) ∧
    (Cn.takeC ⟨10, 4, 4, 4, false⟩ one04 Z2 D2 = 0 ∧ Cn.takeN ⟨10, 4, 4, 4, false⟩ one04 Z2 D2 = 4 ∧ Cn.takeZ ⟨10, 4, 4, 4, false⟩ one04 Z2 D2 = Z3 ∧ Cn.takeD ⟨10, 4, 4, 4, false⟩ one04 Z2 D2 = D3 ∧ Cn.take ⟨10, 4, 4, 4, false⟩ one04 Z2 D2 = ⟨10, 4, 8, 5, false⟩) ∧
    Cn.newC 10 4 [] Z3 D3 = 10 ∧ D1.cnt ≤ 100 ∧ D2.cnt ≤ 100 ∧ D3.cnt ≤ 100 := by
  have f0 : Fine aZ0 aD0 := Fine.new (by omega) (by omega) (by omega)
  obtain ⟨l1, l2⟩ := load_new (k := 16) (Z := aZ0) (by show 0 + 2 * 8 ≤ 16; omega) rfl rfl rfl
  have l1' : aZ0.loadC aD0 = 11 := l1
  have l2' : aZ0.load aD0 = aZ0 := l2
  have z1 : aZ0.n = 8 := rfl
  have z2 : aZ0.num = 0 := rfl
  have z3 : aD0.cnt = 0 := rfl
  clear l1 l2
  obtain ⟨Z1, D1, p1, p2, p3, f1, a1, b1, d1, c1, o1⟩ := f0.next (b := Cn.row ⟨10, 4, 0, 0, false⟩ one04) (Fine.row_fits z1 _ (by decide)) (by rw [z2]; omega)
  obtain ⟨Z2, D2, q1, q2, q3, f2, a2, b2, d2, c2, o2⟩ := f1.next (b := Cn.row ⟨10, 4, 4, 0, false⟩ one04) (Fine.row_fits (a1.trans z1) _ (by decide)) (by rw [b1, z2]; omega)
  obtain ⟨Z3, D3, r1, r2, r3, f3, a3, b3, d3, c3, o3⟩ := f2.next (b := Cn.row ⟨10, 4, 8, 4, false⟩ one04) (Fine.row_fits (a2.trans (a1.trans z1)) _ (by decide)) (by rw [b2, b1, z2]; omega)
  obtain ⟨u1, u2, u3⟩ := o2 Z2 ⟨d2, a2⟩
  obtain ⟨v1, v2, v3⟩ := o3 Z3 ⟨d3, a3⟩
  clear o1 o2 o3 f0 f1 f2 f3
  have fx : Cn.Fit ⟨10, 4, 4, 0, false⟩ := ⟨by decide, by decide, by decide, by decide⟩
  have mx : Cn.May ⟨10, 4, 4, 0, false⟩ one04.length := by decide
  have m0 : (Cn.fresh 10 4).May one04.length := by decide
  have m1 : (Cn.fresh 10 4).May ([] : List UInt8).length := by decide
  refine ⟨Z1, D1, Z2, D2, Z3, D3, ⟨?_, ?_, ?_⟩, ⟨?_, ?_, ?_, ?_, ?_⟩, ⟨?_, ?_, ?_, u2⟩, ⟨?_, ?_, ?_, ?_, ?_⟩, ?_, ?_, ?_, ?_⟩
  · rw [Cn.newC, if_pos m0, if_neg (by rw [l1']; omega), if_pos l1', l2']; exact p3
  · rw [Cn.newZ, if_pos m0, if_pos l1', l2']; exact p1
  · rw [Cn.newD, if_pos m0, if_pos l1', l2']; exact p2
  · simp [Cn.takeC, Cn.more, q3]
  · simp [Cn.takeN, Cn.takeC, Cn.more, q3]
  · simp [Cn.takeZ, Cn.must, Cn.more, q1]
  · simp [Cn.takeD, Cn.must, Cn.more, q2]
  · simp [Cn.take, Cn.takeC, Cn.must, Cn.more, q3, Cn.next]
  · rw [Cn.openC, if_pos u1, u3]; exact Cn.read_row _ one04 fx mx
  · rw [Cn.openX, u3, Cn.ofB_row _ one04 fx]
  · rw [Cn.openH, u3, Cn.row_f]
  · simp [Cn.takeC, Cn.more, r3]
  · simp [Cn.takeN, Cn.takeC, Cn.more, r3]
  · simp [Cn.takeZ, Cn.must, Cn.more, r1]
  · simp [Cn.takeD, Cn.must, Cn.more, r2]
  · simp [Cn.take, Cn.takeC, Cn.must, Cn.more, r3, Cn.next]
  · rw [Cn.newC, if_pos m1, if_pos v1]
  · rw [c1, z1, z3]; omega
  · rw [c2, c1, a1, z1, z3]; omega
  · rw [c3, c2, c1, a2, a1, z1, z3]; omega
end Go.Proofs.YtnoflgkjdibblaaDoor.S21

/-
  The walk of layer 20's fifth statement (SlotsFull), over the contracts. No statement is proved here. (Written by gensll1.py.)
-/
namespace Go.Proofs.YtnoflgkjdibblaaDoor.S20
set_option linter.unusedSimpArgs false
set_option linter.unusedVariables false
set_option maxRecDepth 4096
open Go.RowKit S19

theorem byte_lit (w : World) (b : UInt8) : Rd (w.alloc (.cells #[.int .u8 (b.toNat : Int)] 5)) (some ⟨w.heap.size, 0, none⟩) 1 1 [b] := by
  have := World.ownsRow_lit (base := 0) (e := 5) (size := 1) w #[.int .u8 (b.toNat : Int)] 1 (Nat.zero_le _) (by simp [maxLen]) (by simp)
  exact Rd.own (B := 0) (e := 5) (by simpa [bv] using this)
theorem out_of {F S F' S' : Nat → Prop} {n : Nat} {a : Nat} (h : ∀ b, Or2 F' S' b → Or2 F S b ∨ n ≤ b) (ha : a < n) (hn : ¬ Or2 F S a) : ¬ Or2 F' S' a := fun e => by
  rcases h a e with e | e
  · exact hn e
  · omega
theorem full_facts (k : Nat) (h1 : 1 ≤ k) (h8 : k ≤ 8) (b : List UInt8) (hb : b.length = room k) (c : UInt8) : (Sl.new 0 k).Ok (Dk.new (2 * k)) ∧ (Sl.new 0 k).saveC (Dk.new (2 * k)) (b ++ [c]) = 1 ∧ (Sl.new 0 k).saveD (Dk.new (2 * k)) (b ++ [c]) = Dk.new (2 * k) ∧ (Sl.new 0 k).save (Dk.new (2 * k)) (b ++ [c]) = Sl.new 0 k ∧
    (Sl.new 0 k).saveC (Dk.new (2 * k)) b = 0 ∧ (Sl.new 0 k).save (Dk.new (2 * k)) b = ⟨0, k, 0, 1, b⟩ ∧ (⟨0, k, 0, 1, b⟩ : Sl).loadC ((Sl.new 0 k).saveD (Dk.new (2 * k)) b) = 0 ∧ (⟨0, k, 0, 1, b⟩ : Sl).loadB ((Sl.new 0 k).saveD (Dk.new (2 * k)) b) = b ∧ (⟨0, k, 0, 1, b⟩ : Sl).loadN ((Sl.new 0 k).saveD (Dk.new (2 * k)) b) = 1 := by
  have hm : may (Dk.new (2 * k)).sure.length 0 (k : Int) = true := decide_eq_true (by simp [Dk.new]; omega)
  have hZ : (Sl.new 0 k).Ok (Dk.new (2 * k)) := new_ok (first := 0) (n := k) hm
  have hl : room (Sl.new 0 k).n < (b ++ [c]).length := by show room k < _; simp; omega
  have g1 : (Sl.new 0 k).saveC (Dk.new (2 * k)) (b ++ [c]) = 1 := by rw [Sl.saveC, if_pos hl]
  have hbl : b.length ≤ room (Sl.new 0 k).n := by show _ ≤ room k; omega
  obtain ⟨h3, h4, _⟩ := save_calm (Calm.new (2 * k)) rfl hZ hbl
  have ho : (whole ((Sl.new 0 k).area (Dk.new (2 * k)) (1 - (Sl.new 0 k).goes)) (Sl.new 0 k).n).1 ≤ (Sl.new 0 k).num := by
    rw [area_new (k := 2 * k) (Z := Sl.new 0 k) (by show 0 + 2 * k ≤ 2 * k; omega) (by omega), whole_zero]
    exact Nat.zero_le _
  obtain ⟨h5, h6⟩ := load_saved (Calm.new (2 * k)) rfl hZ hbl (by show 0 + 1 < _; omega) ho ⟨0, k, 0, 1, b⟩ ⟨rfl, rfl⟩
  refine ⟨hZ, g1, by rw [Sl.saveD, if_pos hl], by rw [Sl.save, g1, if_neg (by omega)], h3, h4, h5, ?_, ?_⟩
  · rw [Sl.loadB, if_pos h5, h6]
  · rw [Sl.loadN, if_pos h5, h6]; rfl
end Go.Proofs.YtnoflgkjdibblaaDoor.S20

/-
  The statements' first question of layer 21, over the contracts. No statement is proved here. (Written by genrva.py.)
-/
namespace Go.Proofs.YtnoflgkjdibblaaDoor.S21
set_option linter.unusedSimpArgs false
set_option linter.unusedVariables false
set_option maxRecDepth 8192
open Go.RowKit S19 S20

set_option maxHeartbeats 8000000 in
theorem awake21_any (M : DC) (C : SlC M) (K : RvC M C) (w : World) (hk : K.ok w) : Calls Tryd.prog 7 #[] w fun e w' => e = .returned (.bool true) ∧ Below w.heap.size w w' := by
  obtain ⟨N, hN⟩ : ∃ N, w.heap.size = N := ⟨_, rfl⟩
  have HN := Lib.hid hN
  have OKN := Lib.hid (show ∀ X, Below N w X → K.ok X from fun X hX => K.bel hk (by rw [hN]; exact hX))
  have BN := Lib.hid (show ∀ X Y, Below N w X → Below X.heap.size X Y → Below N w Y from fun X Y h h' => h.trans (h'.mono (by have := h.size; omega)))
  obtain ⟨Z1, D1, Z2, D2, Z3, D3, ⟨n1, n2, n3⟩, ⟨t1, t2, t3, t4, t5⟩, ⟨o1, o2, o3, o4⟩, ⟨s1, s2, s3, s4, s5⟩, e1, d1, d2, d3⟩ := aw21_facts
  have C1 := Lib.hid (show Calls Tryd.prog 13 #[.int .i64 16] w fun e w' => ∃ g F, e = .returned (.tuple #[.pointer (some ⟨g, 0, none⟩), .int .i64 0]) ∧ M.Is N w' g aD0 F ∧ Below N w w' from
    (M.new N w 16 (C.okM (K.okC hk)) (by omega) (by omega) (by omega)).mono fun e w' ⟨g, F, h1, h2, h3, h4⟩ => ⟨g, F, h1, h2, by rw [← hN]; exact h4⟩)
  have C2 := Lib.hid (show ∀ X g F, Below N w X → M.Is N X g aD0 F → Calls Tryd.prog 14 #[.pointer (some ⟨g, 0, none⟩), .int .i64 0, .int .i64 8] X fun e w' => ∃ s F' S', e = .returned (.tuple #[.pointer (some ⟨s, 0, none⟩), .int .i64 0]) ∧ Lz M C N w' g s aD0 aZ0 F' S' ∧ Below N X w' from
    fun X g F hX hI => (C.new N X g aD0 F 0 8 (K.okC (OKN.out X hX)) hI rfl).mono fun e w' ⟨s, S, F', h1, h2, h3, h4, h5, h6, h7⟩ => ⟨s, F', S, h1, ⟨h3, h2, h6, new_ok (first := 0) (n := 8) rfl⟩, h7.bel⟩)
  have C3 := Lib.hid (show ∀ X g s F S, Below N w X → Lz M C N X g s aD0 aZ0 F S → Calls Tryd.prog 15 #[.pointer (some ⟨s, 0, none⟩), .slice (some ⟨X.heap.size, 0, none⟩) 1 1, .int .u64 10, .int .u64 4] (X.alloc (.cells #[.int .u8 104] 5 (1, 2))) fun e w' =>
      ∃ cc R F' S', e = .returned (.tuple #[.pointer (some ⟨cc, 0, none⟩), .int .i64 0]) ∧ K.Is N w' cc s ⟨10, 4, 0, 0, false⟩ one04 R ∧ (∀ b, R b → ¬ Or2 F' S' b) ∧ Lz M C N w' g s D1 Z1 F' S' ∧ Below N X w' from fun X g s F S hX hI => by
    have hG : Below X.heap.size X (X.alloc (.cells #[.int .u8 104] 5 (1, 2))) := (Below.refl _ _).alloc (Nat.le_refl _) _
    have hr : Rd (X.alloc (.cells #[.int .u8 104] 5 (1, 2))) (some ⟨X.heap.size, 0, none⟩) 1 1 one04 := rd_mark X _ one04 _ rfl (by decide)
    refine (K.new N _ s g aD0 aZ0 F S _ 1 1 one04 10 4 (fun Y hY => OKN.out Y ((BN.out _ _ hX hG).trans hY)) (hI.grow hG) hr (fun a _ e hO => by injection e with e; rw [← e] at hO; have := (hI.lt _ hO).2; exact absurd this (Nat.lt_irrefl _)) (by show 0 < _; omega) (by omega) (by omega) (by omega)).mono ?_
    rintro e w' ⟨p, F', S', h1, h2, h3, h4, h5, h6⟩
    obtain ⟨cc, R, rfl, i1, i2, i3⟩ := h3 n1
    rw [n2, n3] at h4
    rw [n1] at h1
    exact ⟨cc, R, F', S', h1, i1, i3, h4, (hG.mono (by have := hX.size; omega)).trans h6.bel⟩)
  have C4 := Lib.hid (show ∀ X cc g s F S R, Below N w X → Lz M C N X g s D1 Z1 F S → K.Is N X cc s ⟨10, 4, 0, 0, false⟩ one04 R → (∀ b, R b → ¬ Or2 F S b) → Calls Tryd.prog 16 #[.pointer (some ⟨cc, 0, none⟩)] X fun e w' =>
      ∃ F' S', e = .returned (.tuple #[.int .u64 0, .int .i64 0]) ∧ Lz M C N w' g s D2 Z2 F' S' ∧ Below N X w' from fun X cc g s F S R hX hL hI ha => by
    refine (K.take N X cc s g _ one04 D1 Z1 F S R (OKN.out X hX) hL hI ha (Cn.fresh_ok (by decide)) (by omega)).mono ?_
    rintro e w' ⟨F', S', R', h1, h2, h3, h4, h5, h6⟩
    rw [t1, t2] at h1
    rw [t3, t4] at h2
    exact ⟨F', S', h1, h2, h6.bel⟩)
  have C5 := Lib.hid (show ∀ X g s F S, Below N w X → Lz M C N X g s D2 Z2 F S → Calls Tryd.prog 21 #[.pointer (some ⟨s, 0, none⟩)] X fun e w' =>
      ∃ cc R F' S', e = .returned (.tuple #[.pointer (some ⟨cc, 0, none⟩), .int .i64 0]) ∧ K.Is N w' cc s ⟨10, 4, 4, 4, false⟩ one04 R ∧ (∀ b, R b → ¬ Or2 F' S' b) ∧ Lz M C N w' g s D2 Z2 F' S' ∧ Below N X w' from fun X g s F S hX hL => by
    refine (K.opn N X s g D2 Z2 F S (OKN.out X hX) hL).mono ?_
    rintro e w' ⟨p, F', S', h1, h2, h3, h4, h5, h6⟩
    obtain ⟨cc, R, rfl, i1, i2, i3⟩ := h3 o1
    rw [o1] at h1
    rw [o2, o3] at i1
    rw [o4] at h4
    exact ⟨cc, R, F', S', h1, i1, i3, h4, h6.bel⟩)
  have C6 := Lib.hid (show ∀ X cc g s F S R, Below N w X → Lz M C N X g s D2 Z2 F S → K.Is N X cc s ⟨10, 4, 4, 4, false⟩ one04 R → (∀ b, R b → ¬ Or2 F S b) → Calls Tryd.prog 16 #[.pointer (some ⟨cc, 0, none⟩)] X fun e w' =>
      ∃ F' S' R', e = .returned (.tuple #[.int .u64 4, .int .i64 0]) ∧ Lz M C N w' g s D3 Z3 F' S' ∧ K.Is N w' cc s ⟨10, 4, 8, 5, false⟩ one04 R' ∧ (∀ b, R' b → ¬ Or2 F' S' b) ∧ Below N X w' from fun X cc g s F S R hX hL hI ha => by
    refine (K.take N X cc s g _ one04 D2 Z2 F S R (OKN.out X hX) hL hI ha ⟨by decide, by decide⟩ (by omega)).mono ?_
    rintro e w' ⟨F', S', R', h1, h2, h3, h4, h5, h6⟩
    rw [s1, s2] at h1
    rw [s3, s4] at h2
    rw [s5] at h3
    exact ⟨F', S', R', h1, h2, h3, h4, h6.bel⟩)
  have C7 := Lib.hid (show ∀ X cc g s F S R, Below N w X → Lz M C N X g s D3 Z3 F S → K.Is N X cc s ⟨10, 4, 8, 5, false⟩ one04 R → (∀ b, R b → ¬ Or2 F S b) → Calls Tryd.prog 15 #[.pointer (some ⟨s, 0, none⟩), .slice none 0 0, .int .u64 10, .int .u64 4] X fun e w' =>
      e = .returned (.tuple #[.pointer none, .int .i64 10]) ∧ K.Is N w' cc s ⟨10, 4, 8, 5, false⟩ one04 R ∧ Below N X w' from fun X cc g s F S R hX hL hI ha => by
    refine (K.new N X s g D3 Z3 F S none 0 0 [] 10 4 (fun Y hY => OKN.out Y (hX.trans hY)) hL (Rd.nil_ X) (fun a h _ => absurd h (by omega)) (by omega) (by omega) (by omega) (by omega)).mono ?_
    rintro e w' ⟨p, F', S', h1, h2, h3, h4, h5, h6⟩
    obtain rfl := h2 (by rw [e1]; omega)
    rw [e1] at h1
    refine ⟨h1, K.keep hI h6.size fun b hb hlt => h6.same b hlt fun hO => ?_, h6.bel⟩
    rcases hb with q | q
    · have := (hL.lt b hO).1; omega
    · exact ha b q hO)
  have C8 := Lib.hid (show ∀ X cc s R, Below N w X → K.Is N X cc s ⟨10, 4, 8, 5, false⟩ one04 R → Calls Tryd.prog 20 #[.pointer (some ⟨cc, 0, none⟩)] X fun e w' => ∃ A c, e = .returned (.slice A 1 c) ∧ Rd w' A 1 c one04 ∧ K.Is N w' cc s ⟨10, 4, 8, 5, false⟩ one04 R ∧ Below N w w' from
    fun X cc s R hX hI => (K.head N X cc s _ one04 R (OKN.out X hX) hI).mono fun e w' ⟨A, c, h1, h2, h4⟩ => ⟨A, c, h1, Rd.own h2, K.keep hI h4.size fun b _ hlt => h4.block b hlt, BN.out _ _ hX h4⟩)
  have C9 := Lib.hid (show ∀ X cc s R, Below N w X → K.Is N X cc s ⟨10, 4, 8, 5, false⟩ one04 R → Calls Tryd.prog 19 #[.pointer (some ⟨cc, 0, none⟩)] X fun e w' => e = .returned (.agg #[.int .u64 10, .int .u64 4, .int .u64 8, .int .u64 5, .bool false]) ∧ Below N w w' from
    fun X cc s R hX hI => (K.state N X cc s _ one04 R (OKN.out X hX) hI).mono fun e w' ⟨h1, h4⟩ => ⟨h1, BN.out _ _ hX h4⟩)
  have EQ : ∀ W, (binOp .eql 24 (.agg #[.int .u64 10, .int .u64 4, .int .u64 8, .int .u64 5, .bool false]) (.agg #[.int .u64 10, .int .u64 4, .int .u64 8, .int .u64 5, .bool false])).run Tryd.prog W = .ok (.bool true) W := fun W => run_eql_Cn ⟨10, 4, 8, 5, false⟩ ⟨10, 4, 8, 5, false⟩ W
  have kc := fun (w : World) (C : Array Value) (n c : Nat) => Lib.run_convert_bytes_const (P := Tryd.prog) w 25 5 C n c Tryd.underlying25 Tryd.underlying5
  clear n1 n2 n3 t1 t2 t3 t4 t5 o1 o2 o3 o4 s1 s2 s3 s4 s5 e1 d1 d2 d3 hk
  go_enter Tryd.func7, Tryd.ntmps7
  go_upto_region 16 with (first
    | (go_at_call 13; ((with_reducible refine C1.out.mono ?_); rintro e w1 ⟨g, F1, rfl, i1, b1⟩; have I1 := Lib.hid i1; have B1 := Lib.hid b1; clear i1 b1))
    | (go_at_call 14; ((with_reducible refine (C2.out w1 g F1 B1.out I1.out).mono ?_); rintro e w2 ⟨s, F2, S2, rfl, i2, b2⟩; have I2 := Lib.hid i2; have B2 := Lib.hid (B1.out.trans b2); clear i2 b2))
    | (go_at_call 15; ((with_reducible refine (C7.out w6 oo g s F6 S6 R6 B6.out L6.out I6.out A6.out).mono ?_); rintro e w7 ⟨rfl, i7, b7⟩; have I7 := Lib.hid i7; have B7 := Lib.hid (B6.out.trans b7); clear i7 b7))
    | (go_at_call 15; ((refine (C3.out w2 g s F2 S2 B2.out I2.out).mono ?_); rintro e w3 ⟨cc, R3, F3, S3, rfl, i3, a3, l3, b3⟩; have I3 := Lib.hid i3; have A3 := Lib.hid a3; have L3 := Lib.hid l3; have B3 := Lib.hid (B2.out.trans b3); clear i3 a3 l3 b3))
    | (go_at_call 16; ((with_reducible refine (C4.out w3 cc g s F3 S3 R3 B3.out L3.out I3.out A3.out).mono ?_); rintro e w4 ⟨F4, S4, rfl, l4, b4⟩; have L4 := Lib.hid l4; have B4 := Lib.hid (B3.out.trans b4); clear l4 b4))
    | (go_at_call 21; ((with_reducible refine (C5.out w4 g s F4 S4 B4.out L4.out).mono ?_); rintro e w5 ⟨oo, R5, F5, S5, rfl, i5, a5, l5, b5⟩; have I5 := Lib.hid i5; have A5 := Lib.hid a5; have L5 := Lib.hid l5; have B5 := Lib.hid (B4.out.trans b5); clear i5 a5 l5 b5))
    | (go_at_call 16; ((with_reducible refine (C6.out w5 oo g s F5 S5 R5 B5.out L5.out I5.out A5.out).mono ?_); rintro e w6 ⟨F6, S6, R6, rfl, l6, i6, a6, b6⟩; have L6 := Lib.hid l6; have I6 := Lib.hid i6; have A6 := Lib.hid a6; have B6 := Lib.hid (B5.out.trans b6); clear l6 i6 a6 b6)))
  have EC := Lib.hid EQ
  go_wp2_with (first
    | (go_at_call 20; ((with_reducible refine (C8.out w7 oo s R6 B7.out I7.out).mono ?_); rintro e w8 ⟨A8, c8, rfl, r8, i8, b8⟩; have V8 := rd_convert r8; simp only [one04] at V8; have I8 := Lib.hid i8; have B8 := Lib.hid b8; clear i8 b8 r8))
    | (go_at_call 19; ((with_reducible refine (C9.out w8 oo s R6 B8.out I8.out).mono ?_); rintro e w9 ⟨rfl, b9⟩; have B9 := Lib.hid b9; clear b9)))
  go_ret
  exact ⟨rfl, by first | exact B9.out | (rw [HN.out]; exact B9.out)⟩
end Go.Proofs.YtnoflgkjdibblaaDoor.S21

/-
  The document's own Bytes of layer 21. No statement is proved here. (Written by genrv5.py.)
-/
namespace Go.Proofs.YtnoflgkjdibblaaDoor.S21
set_option linter.unusedSimpArgs false
set_option linter.unusedVariables false
set_option maxRecDepth 4096
open Go.RowKit

theorem RdBs.built5 (w : World) (T : TypeId) {A1 A2 A3 A4 A5 : Option Addr} {n1 n2 n3 n4 n5 c1 c2 c3 c4 c5 : Nat} {x1 x2 x3 x4 x5 : List UInt8} (h1 : Rd w A1 n1 c1 x1) (h2 : Rd w A2 n2 c2 x2) (h3 : Rd w A3 n3 c3 x3) (h4 : Rd w A4 n4 c4 x4) (h5 : Rd w A5 n5 c5 x5) :
    RdBs (w.alloc (.cells #[.slice A1 n1 c1, .slice A2 n2 c2, .slice A3 n3 c3, .slice A4 n4 c4, .slice A5 n5 c5] T)) (some ⟨w.heap.size, 0, none⟩) 5 5 [x1, x2, x3, x4, x5] :=
  RdBs.built w _ T [x1, x2, x3, x4, x5] (by simp [maxLen]) fun j hj => by
    match j, hj with
    | 0, _ => exact ⟨A1, n1, c1, rfl, h1⟩
    | 1, _ => exact ⟨A2, n2, c2, rfl, h2⟩
    | 2, _ => exact ⟨A3, n3, c3, rfl, h3⟩
    | 3, _ => exact ⟨A4, n4, c4, rfl, h4⟩
    | 4, _ => exact ⟨A5, n5, c5, rfl, h5⟩
/-- The counter as bytes, but for its last number. -/
def flat0 (x : Cn) (h : List UInt8) : List UInt8 := [putL x.tot 8, putL x.bat 8, putL x.res 8, [0], h].flatten
theorem flat0_len (x : Cn) (h : List UInt8) : (flat0 x h).length = 25 + h.length := by simp [flat0, putL_length]; omega
theorem flat0_row (x : Cn) (h : List UInt8) : (if x.gone = true then (flat0 x h).set 24 1 else flat0 x h) = x.row h := by
  have e : flat0 x h = (putL x.tot 8 ++ putL x.bat 8 ++ putL x.res 8) ++ (0 :: h) := by simp [flat0]
  have l : (putL x.tot 8 ++ putL x.bat 8 ++ putL x.res 8).length = 24 := by simp [putL_length]
  rw [e, Cn.row]
  unfold Cn.flag
  cases x.gone
  · simp
  · simp only [reduceIte]
    rw [List.set_append_right _ _ (by omega), l]
    simp
abbrev cnA (t b r nx : Nat) (gn : Bool) : Array Value := #[.int .u64 (t : Int), .int .u64 (b : Int), .int .u64 (r : Int), .int .u64 (nx : Int), .bool gn]
/-- The facts of Bytes. -/
def rbF (w : World) (g t b r : Nat) (A : Option Addr) (n c : Nat) (x1 x2 x3 h : List UInt8) : Nat → SG.Fact := fun i => (([SG.Fact.eq (.pointer (some ⟨g, 0, none⟩)), SG.Fact.eq (.int .u64 (t : Int)), SG.Fact.rd 8 x1, SG.Fact.eq (.pointer (some ⟨g, 1, none⟩)), SG.Fact.eq (.int .u64 (b : Int)), SG.Fact.rd 8 x2, SG.Fact.eq (.pointer (some ⟨g, 2, none⟩)), SG.Fact.eq (.int .u64 (r : Int)), SG.Fact.rd 8 x3, SG.Fact.bk 1 5 #[.int .u8 0], SG.Fact.eq (.slice A n c), SG.Fact.rows 5 [x1, x2, x3, [0], h], SG.Fact.new w [x1, x2, x3, [0], h].flatten, SG.Fact.new w [x1, x2, x3, [0], h].flatten] : List SG.Fact))[i]?.getD SG.Fact.any
set_option maxHeartbeats 8000000 in
theorem rbytes21_any (x : Cn) (A : Option Addr) (n c : Nat) (h : List UInt8) (w : World) (hx : x.Fit) (hr : Rd w A n c h) (hn : n ≤ 100000) :
    Calls Tryd.prog 9 #[.agg x.cells, .slice A n c] w fun e w' => ∃ A' c', e = .returned (.tuple #[.slice A' (x.bytesB h).length c', .int .i64 (x.bytesC h : Int)]) ∧ w'.ownsRow w.heap.size 5 1 (.slice A' (x.bytesB h).length c') (x.bytesB h).length (bv (x.bytesB h)) ∧ Below w.heap.size w w' := by
  have hl := hr.len
  obtain ⟨t, b, r, nx, gn⟩ := x
  obtain ⟨g, hg⟩ : ∃ g, g = w.heap.size := ⟨_, rfl⟩
  obtain ⟨w0, hw0⟩ : ∃ w0, w.alloc (.cells (cnA t b r nx gn) 24) = w0 := ⟨_, rfl⟩
  have G0 := Lib.hid (show Bk w0 g 24 (cnA t b r nx gn) by rw [← hw0, hg]; exact Bk.new _ _ _)
  have B0 := Lib.hid (show Below w.heap.size w w0 by rw [← hw0]; exact (Below.refl _ _).alloc (Nat.le_refl _) _)
  have HW0 := Lib.hid hw0
  have HG := Lib.hid hg
  have k0 : w0.cell? ⟨g, 0, none⟩ = some (.int .u64 (t : Int)) := G0.out.cell 0
  have k1 : w0.cell? ⟨g, 1, none⟩ = some (.int .u64 (b : Int)) := G0.out.cell 1
  have k2 : w0.cell? ⟨g, 2, none⟩ = some (.int .u64 (r : Int)) := G0.out.cell 2
  have k3 : w0.cell? ⟨g, 3, none⟩ = some (.int .u64 (nx : Int)) := G0.out.cell 3
  have k4 : w0.cell? ⟨g, 4, none⟩ = some (.bool gn) := G0.out.cell 4
  clear hw0 hg
  have MY := Lib.hid (fun X => rmay21_any ⟨t, b, r, nx, gn⟩ A n c X)
  unfold Cn.cells at MY ⊢
  simp only at MY ⊢
  by_cases hm : Cn.May ⟨t, b, r, nx, gn⟩ n
  · rw [show Cn.bytesB ⟨t, b, r, nx, gn⟩ h = Cn.row ⟨t, b, r, nx, gn⟩ h by simp [Cn.bytesB, hl, hm], show Cn.bytesC ⟨t, b, r, nx, gn⟩ h = 0 by simp [Cn.bytesC, hl, hm]]
    rw [show decide (Cn.May ⟨t, b, r, nx, gn⟩ n) = true from decide_eq_true hm] at MY
    have RW := Lib.hid (flat0_row ⟨t, b, r, nx, gn⟩ h)
    have FL := Lib.hid (flat0_len ⟨t, b, r, nx, gn⟩ h)
    have RL := Lib.hid (Cn.row_len ⟨t, b, r, nx, gn⟩ h)
    have HLN := Lib.hid hl
    obtain ⟨x1, hx1⟩ : ∃ x1, x1 = putL t 8 := ⟨_, rfl⟩
    obtain ⟨x2, hx2⟩ : ∃ x2, x2 = putL b 8 := ⟨_, rfl⟩
    obtain ⟨x3, hx3⟩ : ∃ x3, x3 = putL r 8 := ⟨_, rfl⟩
    have FF := Lib.hid (show flat0 ⟨t, b, r, nx, gn⟩ h = [x1, x2, x3, [0], h].flatten by rw [hx1, hx2, hx3]; rfl)
    have N1 := Lib.hid (show ∀ X, Calls Tryd.prog 26 #[.int .u64 (t : Int), .int .i64 8] X (New X.heap.size X x1) from fun X => by rw [hx1]; exact rput_any t 8 X (by omega) hx.tot)
    have N2 := Lib.hid (show ∀ X, Calls Tryd.prog 26 #[.int .u64 (b : Int), .int .i64 8] X (New X.heap.size X x2) from fun X => by rw [hx2]; exact rput_any b 8 X (by omega) hx.bat)
    have N3 := Lib.hid (show ∀ X, Calls Tryd.prog 26 #[.int .u64 (r : Int), .int .i64 8] X (New X.heap.size X x3) from fun X => by rw [hx3]; exact rput_any r 8 X (by omega) hx.res)
    have L1 := Lib.hid (show x1.length = 8 by rw [hx1]; exact putL_length _ _)
    have L2 := Lib.hid (show x2.length = 8 by rw [hx2]; exact putL_length _ _)
    have L3 := Lib.hid (show x3.length = 8 by rw [hx3]; exact putL_length _ _)
    have HL := Lib.hid (show [x1, x2, x3, [0], h].flatten.length ≤ 140737488355328 by simp; have := L1.out; have := L2.out; have := L3.out; omega)
    have HR := Lib.hid hr
    have HN := Lib.hid hn
    generalize Cn.row ⟨t, b, r, nx, gn⟩ h = RR at *
    clear hx1 hx2 hx3 hx hr hl hm hn
    go_enter Tryd.func9, Tryd.ntmps9
    go_upto_region 1 with (fail)
    rw [HW0.out, ← HG.out]
    go_upto_region 3 with (first
      | (go_at_call 24; ((with_reducible refine (MY.out _).mono ?_); rintro e w1 ⟨rfl, b1⟩; have B1 := Lib.hid b1; clear b1)))
    have G1 := Lib.hid (G0.out.below B1.out G0.out.lt)
    have BW := Lib.hid (B0.out.trans (B1.out.mono B0.out.size))
    clear G0 B0 B1 MY k0 k1 k2 k3 k4
    have HBB := Lib.hid (show ∀ X X', (Below w.heap.size w X ∧ Bk X g 24 (cnA t b r nx gn)) → Below X.heap.size X X' → (Below w.heap.size w X' ∧ Bk X' g 24 (cnA t b r nx gn)) from fun X X' h hb => ⟨h.1.trans (hb.mono h.1.size), h.2.below hb h.2.lt⟩)
    refine SG.wp_region_vals (rbF w g t b r A n c x1 x2 x3 h) (fun X => Below w.heap.size w X ∧ Bk X g 24 (cnA t b r nx gn)) 14 (by kernel_rfl) (by kernel_rfl) rfl ⟨BW.out.drew, G1.out.drew⟩ ?_
    refine SG.seq_val (by omega) HBB.out (fun _ => by rfl) ?_ ?_
    · intro g' X hB hd
      clear hd hB
      exact SG.givesQ_run (by go_simp) ⟨Below.refl _ _, rfl⟩
    simp only [Act.put, List.setIfInBounds_toArray, List.set_cons_zero, List.set_cons_succ]
    refine SG.seq_val (by omega) HBB.out (fun _ => by rfl) ?_ ?_
    · intro g' X hB hd
      have e0 : g' 0 = _ := hd 0 (by kernel_rfl)
      have f0 : X.cell? ⟨g, 0, none⟩ = some (.int .u64 (t : Int)) := hB.2.cell 0
      clear hd hB
      exact SG.givesQ_run (by go_simp) ⟨Below.refl _ _, rfl⟩
    simp only [Act.put, List.setIfInBounds_toArray, List.set_cons_zero, List.set_cons_succ]
    refine SG.seq_val (by omega) HBB.out (fun _ => by rfl) ?_ ?_
    · intro g' X hB hd
      have e1 : g' 1 = _ := hd 1 (by kernel_rfl)
      clear hd hB
      refine SG.givesQ_call (f := 26) (args := #[.int .u64 (t : Int), .int .i64 8]) (by go_simp) ((N1.out X).mono ?_)
      intro e X' h3
      obtain ⟨A', c', rfl, r', hb⟩ := new_len h3
      rw [L1.out] at r'
      exact ⟨_, rfl, hb, A', c', by rw [L1.out], r'⟩
    simp only [Act.put, List.setIfInBounds_toArray, List.set_cons_zero, List.set_cons_succ]
    refine SG.seq_val (by omega) HBB.out (fun _ => by rfl) ?_ ?_
    · intro g' X hB hd
      clear hd hB
      exact SG.givesQ_run (by go_simp) ⟨Below.refl _ _, rfl⟩
    simp only [Act.put, List.setIfInBounds_toArray, List.set_cons_zero, List.set_cons_succ]
    refine SG.seq_val (by omega) HBB.out (fun _ => by rfl) ?_ ?_
    · intro g' X hB hd
      have e0 : g' 3 = _ := hd 3 (by kernel_rfl)
      have f0 : X.cell? ⟨g, 1, none⟩ = some (.int .u64 (b : Int)) := hB.2.cell 1
      clear hd hB
      exact SG.givesQ_run (by go_simp) ⟨Below.refl _ _, rfl⟩
    simp only [Act.put, List.setIfInBounds_toArray, List.set_cons_zero, List.set_cons_succ]
    refine SG.seq_val (by omega) HBB.out (fun _ => by rfl) ?_ ?_
    · intro g' X hB hd
      have e1 : g' 4 = _ := hd 4 (by kernel_rfl)
      clear hd hB
      refine SG.givesQ_call (f := 26) (args := #[.int .u64 (b : Int), .int .i64 8]) (by go_simp) ((N2.out X).mono ?_)
      intro e X' h3
      obtain ⟨A', c', rfl, r', hb⟩ := new_len h3
      rw [L2.out] at r'
      exact ⟨_, rfl, hb, A', c', by rw [L2.out], r'⟩
    simp only [Act.put, List.setIfInBounds_toArray, List.set_cons_zero, List.set_cons_succ]
    refine SG.seq_val (by omega) HBB.out (fun _ => by rfl) ?_ ?_
    · intro g' X hB hd
      clear hd hB
      exact SG.givesQ_run (by go_simp) ⟨Below.refl _ _, rfl⟩
    simp only [Act.put, List.setIfInBounds_toArray, List.set_cons_zero, List.set_cons_succ]
    refine SG.seq_val (by omega) HBB.out (fun _ => by rfl) ?_ ?_
    · intro g' X hB hd
      have e0 : g' 6 = _ := hd 6 (by kernel_rfl)
      have f0 : X.cell? ⟨g, 2, none⟩ = some (.int .u64 (r : Int)) := hB.2.cell 2
      clear hd hB
      exact SG.givesQ_run (by go_simp) ⟨Below.refl _ _, rfl⟩
    simp only [Act.put, List.setIfInBounds_toArray, List.set_cons_zero, List.set_cons_succ]
    refine SG.seq_val (by omega) HBB.out (fun _ => by rfl) ?_ ?_
    · intro g' X hB hd
      have e1 : g' 7 = _ := hd 7 (by kernel_rfl)
      clear hd hB
      refine SG.givesQ_call (f := 26) (args := #[.int .u64 (r : Int), .int .i64 8]) (by go_simp) ((N3.out X).mono ?_)
      intro e X' h3
      obtain ⟨A', c', rfl, r', hb⟩ := new_len h3
      rw [L3.out] at r'
      exact ⟨_, rfl, hb, A', c', by rw [L3.out], r'⟩
    simp only [Act.put, List.setIfInBounds_toArray, List.set_cons_zero, List.set_cons_succ]
    refine SG.seq_val (by omega) HBB.out (fun _ => by rfl) ?_ ?_
    · intro g' X hB hd
      clear hd hB
      exact SG.givesQ_run (w' := X.alloc (.cells #[.int .u8 0] 5)) (by go_simp) ⟨(Below.refl _ _).alloc (Nat.le_refl _) _, X.heap.size, rfl, Bk.new _ _ _⟩
    simp only [Act.put, List.setIfInBounds_toArray, List.set_cons_zero, List.set_cons_succ]
    refine SG.seq_val (by omega) HBB.out (fun _ => by rfl) ?_ ?_
    · intro g' X hB hd
      clear hd hB
      exact SG.givesQ_run (by go_simp) ⟨Below.refl _ _, rfl⟩
    simp only [Act.put, List.setIfInBounds_toArray, List.set_cons_zero, List.set_cons_succ]
    refine SG.seq_val (by omega) HBB.out (fun _ => by rfl) ?_ ?_
    · intro g' X hB hd
      obtain ⟨A1, c1, e2, r1⟩ := hd 2 (by kernel_rfl)
      obtain ⟨A2, c2, e5, r2⟩ := hd 5 (by kernel_rfl)
      obtain ⟨A3, c3, e8, r3⟩ := hd 8 (by kernel_rfl)
      obtain ⟨b4, e9, k4⟩ := hd 9 (by kernel_rfl)
      have e10 : g' 10 = _ := hd 10 (by kernel_rfl)
      have r4 : Rd X (some ⟨b4, 0, none⟩) 1 1 [0] := Rd.of_bk k4 rfl (Nat.le_refl _) (by simp [maxLen]) (fun j hj => by obtain rfl : j = 0 := (by omega); rfl)
      have r5 := HR.out.below hB.1
      clear hd hB
      exact SG.givesQ_run (w' := X.alloc (.cells #[.slice A1 8 c1, .slice A2 8 c2, .slice A3 8 c3, .slice (some ⟨b4, 0, none⟩) 1 1, .slice A n c] 25)) (by go_simp) ⟨(Below.refl _ _).alloc (Nat.le_refl _) _, some ⟨X.heap.size, 0, none⟩, 5, rfl, RdBs.built5 X _ r1 r2 r3 r4 r5⟩
    simp only [Act.put, List.setIfInBounds_toArray, List.set_cons_zero, List.set_cons_succ]
    refine SG.seq_val (by omega) HBB.out (fun _ => by rfl) ?_ ?_
    · intro g' X hB hd
      obtain ⟨A', c', e11, r'⟩ := hd 11 (by kernel_rfl)
      have hs := hB.1.size
      clear hd hB
      refine SG.givesQ_call (f := 25) (args := #[.slice A' 5 c']) (by go_simp) ((rcat_any A' 5 c' _ X r' HL.out).mono ?_)
      rintro e X' ⟨A9, n9, c9, rfl, ho, hb⟩
      exact ⟨_, rfl, hb, A9, n9, c9, rfl, own_base ho hs⟩
    simp only [Act.put, List.setIfInBounds_toArray, List.set_cons_zero, List.set_cons_succ]
    refine SG.seq_val (by omega) HBB.out (fun _ => by rfl) ?_ ?_
    · intro g' X hB hd
      obtain ⟨A', n', c', e12, r'⟩ := hd 12 (by kernel_rfl)
      clear hd hB
      exact SG.givesQ_run (u := .slice A' n' c') (by go_simp) ⟨Below.refl _ _, A', n', c', rfl, r'⟩
    simp only [Act.put, List.setIfInBounds_toArray, List.set_cons_zero, List.set_cons_succ]
    refine SG.seq_end fun g' X hB hf => ?_
    obtain ⟨A7, n7, c7, e13, o7⟩ := hf 13 (by simp)
    have HB := Lib.hid hB.1
    have GX := Lib.hid hB.2
    have O7 := Lib.hid o7
    rw [show g' 13 = .slice A7 n7 c7 from e13]
    have hn7 : n7 = 25 + n := by rw [← own_len o7, ← FF.out, FL.out, HLN.out]
    subst hn7
    clear hf hB o7 e13 HBB
    have c4 : X.cell? ⟨g, 4, none⟩ = some (.bool gn) := GX.out.cell 4
    cases gn with
    | false =>
      go_wp2
      go_ret2
      have e := RW.out
      simp only [Bool.false_eq_true, if_false] at e
      rw [← e, FF.out, ← FF.out, FL.out, FF.out, HLN.out]
      exact ⟨A7, c7, rfl, O7.out, HB.out⟩
    | true =>
      obtain ⟨b7, cap7, hv7, _⟩ := O7.out.form (by omega)
      injection hv7 with hA7 _ hc7
      subst hA7 hc7
      have hc := O7.out.cellAt 24 (by omega)
      have hf := O7.out.frozenAt 24
      have hs := O7.out.stored 24 (.int .u8 1)
      have HS := Lib.hid hs
      rw [bv_at _ _ (by rw [← FF.out, FL.out]; omega)] at hc
      clear hs
      go_wp2
      go_ret2
      have e := RW.out
      simp only [if_true] at e
      have h1 := HS.out.1
      rw [show (Value.int .u8 1) = .int .u8 ((1 : UInt8).toNat : Int) from rfl, bv_set, ← FF.out, e] at h1
      have h2 : RR.length = 25 + n := by rw [RL.out, HLN.out]
      rw [h2]
      refine ⟨_, _, rfl, ?_, HB.out.grown HS.out.2 HB.out.size (fun q hq => by injection hq with hq; rw [← hq]; exact (O7.out.lt b7 rfl).1)⟩
      exact h1
  · rw [show Cn.bytesB ⟨t, b, r, nx, gn⟩ h = [] by simp [Cn.bytesB, hl, hm], show Cn.bytesC ⟨t, b, r, nx, gn⟩ h = 1 by simp [Cn.bytesC, hl, hm]]
    rw [show decide (Cn.May ⟨t, b, r, nx, gn⟩ n) = false from decide_eq_false hm] at MY
    clear hx hr hl hm hn
    go_enter Tryd.func9, Tryd.ntmps9
    go_upto_region 1 with (fail)
    rw [HW0.out, ← HG.out]
    go_wp2_with (first
      | (go_at_call 24; ((with_reducible refine (MY.out _).mono ?_); rintro e w1 ⟨rfl, b1⟩; have B1 := Lib.hid b1; clear b1)))
    go_ret2
    exact ⟨none, 0, rfl, ⟨rfl, .inl ⟨rfl, rfl⟩⟩, B0.out.trans (B1.out.mono B0.out.size)⟩
end Go.Proofs.YtnoflgkjdibblaaDoor.S21
