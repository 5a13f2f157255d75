/-
  Texts put together: Xm1, Xm3, OctX, DigK1, DigP. No statement is proved here.
-/
import Derived.Test.YtkpfppiedadmbaaGreatDoorWo15
import Derived.Test.YtkpfppiedadmbaaGreatDoorWo02
import Derived.RegionTactic
import Derived.ChangeAlike
import Derived.Test.YtkpfppiedadmbaaGreatDoorWo13
import Derived.Lib.BitFns
import Derived.Test.YtkpfppiedadmbaaGreatDoorWo01

/-
  Trees of leaves with masks, one in the other, in plain words: a tree's sums, the way of a leaf, a signature, what fits; what was signed fits. No statement is proved here.
-/
namespace Go.Proofs.YtkpfppiedadmbaaGreatDoor.S16
set_option linter.unusedSimpArgs false
set_option linter.unusedVariables false
set_option maxRecDepth 1024
open S15

abbrev adT (ly tr g i : Nat) : Ad := ⟨ly, tr, 2, 0, g, i⟩
/-- The i-th sum of a height of a tree. -/
def sumT (sec sd : List UInt8) (ly tr : Nat) : Nat → Nat → List UInt8
  | 0, i => leafL sec sd (adQ ly tr i)
  | g + 1, i => hL sd (adT ly tr g i) (sumT sec sd ly tr g (2 * i)) (sumT sec sd ly tr g (2 * i + 1))
/-- The other one below the same sum. -/
def sib (i : Nat) : Nat := if i % 2 = 1 then i - 1 else i + 1
/-- The way of the i-th sum of the height g, over k heights. -/
def wayF (sec sd : List UInt8) (ly tr : Nat) : Nat → Nat → Nat → List UInt8
  | _, 0, _ => []
  | g, k + 1, i => sumT sec sd ly tr g (sib i) ++ wayF sec sd ly tr (g + 1) k (i / 2)
/-- Two below a sum, in their order. -/
def joinT (sd : List UInt8) (ly tr g i : Nat) (x y : List UInt8) : List UInt8 := if i % 2 = 1 then hL sd (adT ly tr g (i / 2)) y x else hL sd (adT ly tr g (i / 2)) x y
/-- Where a sum, and its way, lead. -/
def climbF (sd : List UInt8) (ly tr : Nat) : Nat → Nat → Nat → List UInt8 → List UInt8 → List UInt8
  | _, 0, _, x, _ => x
  | g, k + 1, i, x, way => climbF sd ly tr (g + 1) k (i / 2) (joinT sd ly tr g i x (way.take 32)) (way.drop 32)
/-- A signature's layers. -/
def signF (sec sd : List UInt8) (h : Nat) : Nat → Nat → Nat → List UInt8 → List UInt8
  | _, 0, _, _ => []
  | ly, k + 1, n, of => signL sec sd (adQ ly (n / 2 ^ h) (n % 2 ^ h)) of ++ (wayF sec sd ly (n / 2 ^ h) 0 h (n % 2 ^ h) ++ signF sec sd h (ly + 1) k (n / 2 ^ h) (sumT sec sd ly (n / 2 ^ h) h 0))
/-- Where a signature's layers lead. -/
def fitF (sd : List UInt8) (h : Nat) : Nat → Nat → Nat → List UInt8 → List UInt8 → List UInt8
  | _, 0, _, of, _ => of
  | ly, k + 1, n, of, rest => fitF sd h (ly + 1) k (n / 2 ^ h) (climbF sd ly (n / 2 ^ h) 0 h (n % 2 ^ h) (standL sd (adQ ly (n / 2 ^ h) (n % 2 ^ h)) of (rest.take 2144)) (rest.drop 2144)) (rest.drop (2144 + 32 * h))
/-- An index as 32 bytes. -/
def longL (n : Nat) : List UInt8 := List.replicate 24 0 ++ putL n 8
/-- The sum of a text. -/
def textL (salt root : List UInt8) (n : Nat) (text : List UInt8) : List UInt8 := numL 2 [salt, root, longL n].flatten text
def mayX (L H : Int) : Bool := decide (0 < L) && (decide (L < 13) && (decide (0 < H) && (decide (H < 21) && decide (L * H ≤ 60))))
def totN (L H : Nat) : Nat := 2 ^ (L * H)
def totX (L H : Int) : Nat := if mayX L H = true then totN L.toNat H.toNat else 0
def sizeN (L H : Nat) : Nat := 40 + L * (2144 + 32 * H)
def sizeX (L H : Int) : Nat := if mayX L H = true then sizeN L.toNat H.toNat else 0
def madeX (L H : Int) (ns nl ne : Nat) : Bool := mayX L H && (decide (H ≤ 6) && mayN ns nl ne)
def pubN (sec sd : List UInt8) (L H : Nat) : List UInt8 := sumT sec sd (L - 1) 0 H 0 ++ sd
def sigN (sec salt sd : List UInt8) (L H n : Nat) (text : List UInt8) : List UInt8 :=
  [putL n 8, prfL salt (longL n)].flatten ++ signF sec sd H 0 L n (textL (prfL salt (longL n)) (sumT sec sd (L - 1) 0 H 0) n text)
def fitN (L H : Nat) (pub text sig : List UInt8) : Bool :=
  decide (getL (sig.take 8) < totN L H) && decide (fitF (pub.drop 32) H 0 L (getL (sig.take 8)) (textL ((sig.drop 8).take 32) (pub.take 32) (getL (sig.take 8)) text) (sig.drop 40) = pub.take 32)
/-- What the calls answer. -/
def rootX (L H : Int) (sec salt sd : List UInt8) (ly tr : Nat) : List UInt8 :=
  if madeX L H sec.length salt.length sd.length = true ∧ (ly : Int) < L ∧ tr < 2 ^ (H.toNat * (L.toNat - 1 - ly)) then sumT sec sd ly tr H.toNat 0 else []
def pubX (L H : Int) (sec salt sd : List UInt8) : List UInt8 := if madeX L H sec.length salt.length sd.length = true then pubN sec sd L.toNat H.toNat else []
def sigX (L H : Int) (sec salt sd : List UInt8) (n : Nat) (text : List UInt8) : List UInt8 :=
  if madeX L H sec.length salt.length sd.length = true ∧ text.length ≤ 65536 ∧ n < totN L.toNat H.toNat then sigN sec salt sd L.toNat H.toNat n text else []
def codeX (L H : Int) (sec salt sd : List UInt8) (n : Nat) (text : List UInt8) : Nat :=
  if madeX L H sec.length salt.length sd.length = true ∧ text.length ≤ 65536 then (if n < totN L.toNat H.toNat then 0 else 9) else 1
def fitX (L H : Int) (pub text sig : List UInt8) : Bool :=
  if mayX L H = true ∧ pub.length = 64 ∧ sig.length = sizeN L.toNat H.toNat ∧ text.length ≤ 65536 then fitN L.toNat H.toNat pub text sig else false

theorem mayX_iff {L H : Int} : mayX L H = true ↔ 0 < L ∧ L < 13 ∧ 0 < H ∧ H < 21 ∧ L * H ≤ 60 := by simp [mayX]
theorem mayX_nat {L H : Int} (h : mayX L H = true) : ∃ l k : Nat, L = l ∧ H = k ∧ 0 < l ∧ l < 13 ∧ 0 < k ∧ k < 21 ∧ l * k ≤ 60 := by
  obtain ⟨h1, h2, h3, h4, h5⟩ := mayX_iff.1 h
  refine ⟨L.toNat, H.toNat, by omega, by omega, by omega, by omega, by omega, by omega, ?_⟩
  have e1 : L = (L.toNat : Int) := by omega
  have e2 : H = (H.toNat : Int) := by omega
  rw [e1, e2] at h5
  exact_mod_cast h5
theorem madeX_iff {L H : Int} {ns nl ne : Nat} : madeX L H ns nl ne = true ↔ mayX L H = true ∧ H ≤ 6 ∧ ns = 32 ∧ nl = 32 ∧ ne = 32 := by
  simp [madeX, mayN_iff, and_assoc]
theorem sum_32 (sec sd : List UInt8) (ly tr : Nat) : ∀ g i, (sumT sec sd ly tr g i).length = 32
  | 0, i => leaf_len _ _ _
  | g + 1, i => num_len _ _ _
theorem way_len (sec sd : List UInt8) (ly tr : Nat) : ∀ k g i, (wayF sec sd ly tr g k i).length = 32 * k
  | 0, g, i => rfl
  | k + 1, g, i => by
    simp only [wayF, List.length_append, sum_32, way_len sec sd ly tr k]
    omega
theorem join_sum (sec sd : List UInt8) (ly tr g i : Nat) : joinT sd ly tr g i (sumT sec sd ly tr g i) (sumT sec sd ly tr g (sib i)) = sumT sec sd ly tr (g + 1) (i / 2) := by
  unfold joinT sib
  simp only [sumT]
  by_cases h : i % 2 = 1
  · rw [if_pos h, if_pos h]
    congr 1
    · congr 1; omega
    · congr 1; omega
  · rw [if_neg h, if_neg h]
    congr 1
    · congr 1; omega
    · congr 1; omega
theorem climb_way (sec sd : List UInt8) (ly tr : Nat) : ∀ k g i (rest : List UInt8), climbF sd ly tr g k i (sumT sec sd ly tr g i) (wayF sec sd ly tr g k i ++ rest) = sumT sec sd ly tr (g + k) (i / 2 ^ k)
  | 0, g, i, rest => by simp [climbF]
  | k + 1, g, i, rest => by
    have h := climb_way sec sd ly tr k (g + 1) (i / 2) rest
    simp only [climbF, wayF, List.append_assoc]
    rw [List.take_left' (sum_32 ..), List.drop_left' (sum_32 ..), join_sum, h]
    rw [Nat.div_div_eq_div_mul, show g + 1 + k = g + (k + 1) by omega, show 2 * 2 ^ k = 2 ^ (k + 1) by rw [Nat.pow_succ]; omega]
theorem sign_lenF (sec sd : List UInt8) (h : Nat) : ∀ k ly n of, (signF sec sd h ly k n of).length = k * (2144 + 32 * h)
  | 0, ly, n, of => by simp [signF]
  | k + 1, ly, n, of => by
    simp only [signF, List.length_append, sign_len, way_len, sign_lenF sec sd h k, Nat.succ_mul]
    omega
theorem fit_sign (sec sd : List UInt8) (h : Nat) : ∀ k ly n of, fitF sd h ly (k + 1) n of (signF sec sd h ly (k + 1) n of) = sumT sec sd (ly + k) (n / 2 ^ (h * (k + 1))) h 0
  | k, ly, n, of => by
    have e1 : (signL sec sd (adQ ly (n / 2 ^ h) (n % 2 ^ h)) of).length = 2144 := sign_len _ _ _ _
    have e2 : (n % 2 ^ h) / 2 ^ h = 0 := Nat.div_eq_of_lt (Nat.mod_lt _ (Nat.two_pow_pos h))
    rw [fitF, signF, List.take_left' e1, List.drop_left' e1, stand_sign]
    have e3 : climbF sd ly (n / 2 ^ h) 0 h (n % 2 ^ h) (leafL sec sd (adQ ly (n / 2 ^ h) (n % 2 ^ h))) (wayF sec sd ly (n / 2 ^ h) 0 h (n % 2 ^ h) ++ signF sec sd h (ly + 1) k (n / 2 ^ h) (sumT sec sd ly (n / 2 ^ h) h 0)) = sumT sec sd ly (n / 2 ^ h) h 0 := by
      have := climb_way sec sd ly (n / 2 ^ h) h 0 (n % 2 ^ h) (signF sec sd h (ly + 1) k (n / 2 ^ h) (sumT sec sd ly (n / 2 ^ h) h 0))
      rw [Nat.zero_add, e2] at this
      exact this
    rw [e3, ← List.append_assoc, List.drop_left' (by rw [List.length_append, e1, way_len])]
    cases k with
    | zero => simp [fitF, signF]
    | succ k =>
      rw [fit_sign sec sd h k (ly + 1), Nat.div_div_eq_div_mul, ← Nat.pow_add]
      rw [show h + h * (k + 1) = h * (k + 1 + 1) by rw [Nat.mul_succ h (k + 1)]; omega, show ly + 1 + k = ly + (k + 1) by omega]
theorem long_len (n : Nat) : (longL n).length = 32 := by simp [longL, putL_length]
theorem sig_len (sec salt sd : List UInt8) (L H n : Nat) (text : List UInt8) : (sigN sec salt sd L H n text).length = sizeN L H := by
  have h1 : (prfL salt (longL n)).length = 32 := num_len _ _ _
  simp only [sigN, sizeN, List.length_append, sign_lenF, List.flatten_cons, List.flatten_nil, List.length_nil, putL_length, h1]
theorem pub_len (sec sd : List UInt8) (L H : Nat) (h : sd.length = 32) : (pubN sec sd L H).length = 64 := by simp [pubN, sum_32, h]
theorem fits_signed (sec salt sd : List UInt8) (L H n : Nat) (text : List UInt8) (hs : sd.length = 32) (hL : 0 < L) (hn : n < totN L H) (hb : L * H ≤ 60) (hg : getL (putL n 8) = n) : fitN L H (pubN sec sd L H) text (sigN sec salt sd L H n text) = true := by
  have h1 : (prfL salt (longL n)).length = 32 := num_len _ _ _
  have h2 : (sumT sec sd (L - 1) 0 H 0).length = 32 := sum_32 ..
  have h3 := putL_length n 8
  have t8 : (sigN sec salt sd L H n text).take 8 = putL n 8 := by
    simp only [sigN, List.flatten_cons, List.flatten_nil, List.append_nil, List.append_assoc]
    exact List.take_left' h3
  have d8 : ((sigN sec salt sd L H n text).drop 8).take 32 = prfL salt (longL n) := by
    simp only [sigN, List.flatten_cons, List.flatten_nil, List.append_nil, List.append_assoc]
    rw [List.drop_left' h3, List.take_left' h1]
  have d40 : (sigN sec salt sd L H n text).drop 40 = signF sec sd H 0 L n (textL (prfL salt (longL n)) (sumT sec sd (L - 1) 0 H 0) n text) := by
    simp only [sigN]
    exact List.drop_left' (by simp [h3, h1])
  have p1 : (pubN sec sd L H).take 32 = sumT sec sd (L - 1) 0 H 0 := List.take_left' h2
  have p2 : (pubN sec sd L H).drop 32 = sd := List.drop_left' h2
  unfold fitN
  rw [t8, d8, d40, p1, p2, hg]
  obtain ⟨k, rfl⟩ : ∃ k, L = k + 1 := ⟨L - 1, by omega⟩
  have e := fit_sign sec sd H k 0 n (textL (prfL salt (longL n)) (sumT sec sd (k + 1 - 1) 0 H 0) n text)
  have e0 : n / 2 ^ (H * (k + 1)) = 0 := Nat.div_eq_of_lt (by rw [Nat.mul_comm H]; exact hn)
  rw [e, e0]
  simp [hn]
theorem cut_unfit (L H : Int) (pub text sig : List UInt8) (h : sig.length ≠ sizeX L H) : fitX L H pub text sig = false := by
  unfold fitX
  by_cases hm : mayX L H = true
  · rw [if_neg fun c => h (by rw [sizeX, if_pos hm]; exact c.2.2.1)]
  · rw [if_neg fun c => hm c.1]
end Go.Proofs.YtkpfppiedadmbaaGreatDoor.S16

/-
  Of shapes: what the document's own calls and the landed ones answer: whether a shape may be, how often it signs, how long a signature is. No statement is proved here.
-/
namespace Go.Proofs.YtkpfppiedadmbaaGreatDoor.S16
set_option linter.unusedSimpArgs false
set_option linter.unusedVariables false
set_option maxRecDepth 1024
open Go.RowKit S15

abbrev shA (L H : Int) : Array Value := #[.int .i64 L, .int .i64 H]
/-- A bool, nothing else new. -/
abbrev GivesB (b : Bool) (w : World) (e : Ending) (w' : World) : Prop := e = .returned (.bool b) ∧ Below w.heap.size w w'
theorem mul_small {L H : Int} (h1 : 0 < L) (h2 : L < 13) (h3 : 0 < H) (h4 : H < 21) : wrap64 (L * H) = L * H := by
  have h5 : L * H ≤ 12 * 20 := Int.mul_le_mul (by omega) (by omega) (by omega) (by omega)
  have h6 : 0 ≤ L * H := Int.mul_nonneg (by omega) (by omega)
  unfold wrap64
  omega
/-- The five cases of a shape that may be, or not. -/
theorem may_cases (L H : Int) : ¬ 0 < L ∧ mayX L H = false ∨ 0 < L ∧ ¬ L < 13 ∧ mayX L H = false ∨ 0 < L ∧ L < 13 ∧ ¬ 0 < H ∧ mayX L H = false ∨ 0 < L ∧ L < 13 ∧ 0 < H ∧ ¬ H < 21 ∧ mayX L H = false ∨ 0 < L ∧ L < 13 ∧ 0 < H ∧ H < 21 ∧ mayX L H = decide (L * H ≤ 60) := by
  by_cases h1 : 0 < L
  · by_cases h2 : L < 13
    · by_cases h3 : 0 < H
      · by_cases h4 : H < 21
        · refine .inr (.inr (.inr (.inr ⟨h1, h2, h3, h4, by simp [mayX, h1, h2, h3, h4]⟩)))
        · refine .inr (.inr (.inr (.inl ⟨h1, h2, h3, h4, by simp [mayX, h4]⟩)))
      · refine .inr (.inr (.inl ⟨h1, h2, h3, by simp [mayX, h3]⟩))
    · exact .inr (.inl ⟨h1, h2, by simp [mayX, h2]⟩)
  · exact .inl ⟨h1, by simp [mayX, h1]⟩
set_option maxHeartbeats 1000000 in
theorem rmay16_any (L H : Int) (w : World) : Calls Tryz.prog 19 #[.agg (shA L H)] w (GivesB (mayX L H) w) := by
  have B0 : Below w.heap.size w (w.alloc (.cells (shA L H) 23)) := (Below.refl _ _).alloc (Nat.le_refl _) _
  rcases may_cases L H with ⟨h1, e⟩ | ⟨h1, h2, e⟩ | ⟨h1, h2, h3, e⟩ | ⟨h1, h2, h3, h4, e⟩ | ⟨h1, h2, h3, h4, e⟩
  · rw [e]
    clear e
    go_enter Tryz.func19, Tryz.ntmps19
    go_wp2
    go_ret
    exact ⟨rfl, B0⟩
  · rw [e]
    clear e
    go_enter Tryz.func19, Tryz.ntmps19
    go_wp2
    go_ret
    exact ⟨rfl, B0⟩
  · rw [e]
    clear e
    go_enter Tryz.func19, Tryz.ntmps19
    go_wp2
    go_ret
    exact ⟨rfl, B0⟩
  · rw [e]
    clear e
    go_enter Tryz.func19, Tryz.ntmps19
    go_wp2
    go_ret
    exact ⟨rfl, B0⟩
  · rw [e]
    clear e
    obtain ⟨p, hp⟩ : ∃ p, p = L * H := ⟨_, rfl⟩
    have hw : wrap64 (L * H) = p := (mul_small h1 h2 h3 h4).trans hp.symm
    rw [← hp]
    clear hp
    go_enter Tryz.func19, Tryz.ntmps19
    go_wp2
    go_ret
    exact ⟨rfl, B0⟩
set_option maxHeartbeats 1000000 in
theorem may16_any (L H : Int) (w : World) : Calls Tryz.prog 16 #[.agg (shA L H)] w (GivesB (mayX L H) w) := by
  have B0 : Below w.heap.size w (w.alloc (.cells (shA L H) 23)) := (Below.refl _ _).alloc (Nat.le_refl _) _
  rcases may_cases L H with ⟨h1, e⟩ | ⟨h1, h2, e⟩ | ⟨h1, h2, h3, e⟩ | ⟨h1, h2, h3, h4, e⟩ | ⟨h1, h2, h3, h4, e⟩
  · rw [e]
    have g1 : ¬ 1 ≤ L := by omega
    clear e h1
    go_enter Tryz.func16, Tryz.ntmps16
    go_wp2
    go_ret
    exact ⟨rfl, B0⟩
  · rw [e]
    have g1 : 1 ≤ L := by omega
    have g2 : ¬ L ≤ 12 := by omega
    clear e h1 h2
    go_enter Tryz.func16, Tryz.ntmps16
    go_wp2
    go_ret
    exact ⟨rfl, B0⟩
  · rw [e]
    have g1 : 1 ≤ L := by omega
    have g2 : L ≤ 12 := by omega
    have g3 : ¬ 1 ≤ H := by omega
    clear e h1 h2 h3
    go_enter Tryz.func16, Tryz.ntmps16
    go_wp2
    go_ret
    exact ⟨rfl, B0⟩
  · rw [e]
    have g1 : 1 ≤ L := by omega
    have g2 : L ≤ 12 := by omega
    have g3 : 1 ≤ H := by omega
    have g4 : ¬ H ≤ 20 := by omega
    clear e h1 h2 h3 h4
    go_enter Tryz.func16, Tryz.ntmps16
    go_wp2
    go_ret
    exact ⟨rfl, B0⟩
  · rw [e]
    obtain ⟨p, hp⟩ : ∃ p, p = L * H := ⟨_, rfl⟩
    have hw : wrap64 (L * H) = p := (mul_small h1 h2 h3 h4).trans hp.symm
    rw [← hp]
    clear hp
    have g1 : 1 ≤ L := by omega
    have g2 : L ≤ 12 := by omega
    have g3 : 1 ≤ H := by omega
    have g4 : H ≤ 20 := by omega
    clear e h1 h2 h3 h4
    go_enter Tryz.func16, Tryz.ntmps16
    go_wp2
    go_ret
    exact ⟨rfl, B0⟩
theorem pow_wrap {k : Nat} (h : k ≤ 62) : IntKind.u64.wrap (((2 ^ k : Nat) : Int) * 2) = ((2 ^ (k + 1) : Nat) : Int) := by
  have h1 : 2 ^ (k + 1) ≤ 2 ^ 63 := Nat.pow_le_pow_right (by omega) (by omega)
  rw [Nat.pow_succ] at h1 ⊢
  rw [IntKind.wrap_u64]
  omega
theorem rpow_any (n : Nat) (hn : n ≤ 60) (w : World) : Calls Tryz.prog 39 #[.int .i64 (n : Int)] w fun e w' => e = .returned (.int .u64 ((2 ^ n : Nat) : Int)) ∧ w = w' := by
  go_enter Tryz.func39, Tryz.ntmps39
  go_wp2
  go_loop [3, 4] (fun v i => ∃ k : Nat, k ≤ n ∧ i = .int .i64 (k : Int) ∧ v = .int .u64 ((2 ^ k : Nat) : Int)) (fun _ i => n - (intOf i).toNat)
  case atStart => exact ⟨0, Nat.zero_le _, rfl, rfl⟩
  case round =>
    obtain ⟨k, hk, rfl, rfl⟩ := hrel
    by_cases hlt : k < n
    · have t0 : (k : Int) < (n : Int) := by omega
      have hw := pow_wrap (k := k) (by omega)
      obtain ⟨p, hp⟩ : ∃ p : Nat, p = 2 ^ k := ⟨_, rfl⟩
      obtain ⟨q, hq⟩ : ∃ q : Nat, q = 2 ^ (k + 1) := ⟨_, rfl⟩
      rw [← hp, ← hq] at hw
      rw [← hp]
      have HQ := Lib.hid hq
      clear hp hq
      go_wp2
      go_round
      case rel => exact ⟨k + 1, by omega, by go_num, by rw [← HQ.out]⟩
      case measure => simp [intOf]; omega
    · obtain rfl : k = n := by omega
      have t0 : ¬ (k : Int) < (k : Int) := by omega
      go_wp2
      go_ret
      exact ⟨rfl, rfl⟩
end Go.Proofs.YtkpfppiedadmbaaGreatDoor.S16

/-
  What the calls of package octet do: Fill and Xor.
-/
namespace Go.Proofs.YtkpfppiedadmbaaGreatDoor
set_option linter.unusedSimpArgs false
set_option linter.unusedVariables false
set_option maxRecDepth 1024
open Go.RowKit

theorem fill_step (b : UInt8) (k n : Nat) (h : k < n) : (bv (List.replicate k b ++ List.replicate (n - k) 0)).set k (.int .u8 (b.toNat : Int)) = bv (List.replicate (k + 1) b ++ List.replicate (n - (k + 1)) 0) := by
  obtain ⟨m, hm⟩ : ∃ m, n - k = m + 1 := ⟨n - k - 1, by omega⟩
  have hm' : n - (k + 1) = m := by omega
  rw [bv_set, hm, hm', List.set_append_right _ _ (by simp), List.replicate_succ' (n := k), List.append_assoc]
  simp [List.replicate_succ]

theorem fill_any (b : UInt8) (n : Nat) (w : World) (hn : n ≤ 65536) :
    Calls Tryz.prog 58 #[.int .u8 (b.toNat : Int), .int .i64 (n : Int)] w (New w.heap.size w (List.replicate n b)) := by
  obtain ⟨i0, hi, hz0, hz1, hz2⟩ := info_parts Tryz.infoU8
  go_enter Tryz.func58, Tryz.ntmps58
  go_wp2_with (at_make; refine wpList_make_full _ rfl _ _ 24 rfl w.heap.size 5 i0 (.int .u8 0) 1 Tryz.underlying24 hi hz0 hz1 _ _ _ _ n rfl rfl rfl rfl ?b2 ?b3 (Nat.le_refl _) ?_)
  case b2 => rw [hz2]; omega
  case b3 => unfold maxLen; omega
  intro w0 hown0 hgrow0
  rw [bv_zero] at hown0
  have hb0 : Below w.heap.size w w0 := (Below.refl _ _).grown hgrow0 (Nat.le_refl _) (fun k h => by cases h)
  clear hgrow0
  go_wp2
  go_loopw [17] (fun i wr => ∃ k : Nat, k ≤ n ∧ i = .int .i64 (k : Int) ∧
      wr.ownsRow w.heap.size 5 1 (.slice (some ⟨w.heap.size, 0, none⟩) n n) n (bv (List.replicate k b ++ List.replicate (n - k) 0)) ∧ Below w.heap.size w wr)
    (fun i _ => n - (intOf i).toNat)
  case atStart => exact ⟨0, Nat.zero_le _, rfl, by simpa using hown0, hb0⟩
  case round =>
    obtain ⟨k, hk, rfl, hown, hbel⟩ := hrel
    by_cases hlt : k < n
    · have hc := hown.cellAt k (by omega)
      have hf := hown.frozenAt k
      have hs := hown.stored k
      rw [bv_at _ _ (by simp; omega)] at hc
      go_wp2
      go_roundw
      case rel =>
        exact ⟨k + 1, by omega, by go_num, by rw [← fill_step b k n hlt]; exact (hs _).1, hbel.setCell (Nat.le_refl _) _⟩
      case measure => simp [intOf]; omega
    · obtain rfl : k = n := by omega
      go_wp2
      go_ret
      exact ⟨_, _, _, rfl, by simpa using hown, hbel⟩

theorem fill_none (b n : Int) (w : World) (hn : n < 0 ∨ 65536 < n) :
    Calls Tryz.prog 58 #[.int .u8 b, .int .i64 n] w fun e w' => e = .returned (.slice none 0 0) ∧ w = w' := by
  rcases hn with hn | hn
  · go_enter Tryz.func58, Tryz.ntmps58
    go_wp2
    go_ret
    exact ⟨rfl, rfl⟩
  · have h0 : ¬ n < 0 := by omega
    go_enter Tryz.func58, Tryz.ntmps58
    go_wp2
    go_ret
    exact ⟨rfl, rfl⟩

/-- 'string(b)' of bytes that read. -/
def xorL (xs ys : List UInt8) : List UInt8 := List.zipWith (· ^^^ ·) xs ys
theorem xorL_length (xs ys : List UInt8) : (xorL xs ys).length = min xs.length ys.length := by simp [xorL]

theorem xor_step (xs ys : List UInt8) (k n n' m : Nat) (hx : xs.length = n) (hy : ys.length = n') (hm : m = min n n') (hk : k < m) :
    (bv ((xorL xs ys).take k ++ List.replicate (m - k) 0)).set k (.int .u8 (bits .xor .u8 ((xs[k]?.getD 0).toNat : Int) ((ys[k]?.getD 0).toNat : Int))) = bv ((xorL xs ys).take (k + 1) ++ List.replicate (m - (k + 1)) 0) := by
  have hl := xorL_length xs ys
  have h1 : k < xs.length := by omega
  have h2 : k < ys.length := by omega
  have hv : bits .xor .u8 ((xs[k]?.getD 0).toNat : Int) ((ys[k]?.getD 0).toNat : Int) = (((xs[k] ^^^ ys[k] : UInt8)).toNat : Int) := by
    simp only [List.getElem?_eq_getElem h1, List.getElem?_eq_getElem h2, Option.getD_some]
    rw [u8_xor_nat _ _ (UInt8.toNat_lt _) (UInt8.toNat_lt _), UInt8.toNat_xor]
  have h3 : k < (xorL xs ys).length := by omega
  obtain ⟨q, hq⟩ : ∃ q, m - k = q + 1 := ⟨m - k - 1, by omega⟩
  have hq' : m - (k + 1) = q := by omega
  rw [hv, bv_set, hq, hq', List.set_append_right _ _ (by simp; omega), List.take_succ_eq_append_getElem h3, List.append_assoc]
  have e : k - ((xorL xs ys).take k).length = 0 := by rw [List.length_take]; omega
  rw [e, List.replicate_succ, List.set_cons_zero]
  simp [xorL]

set_option maxHeartbeats 1000000 in
theorem xor_any (A A' : Option Addr) (n c n' c' : Nat) (xs ys : List UInt8) (w : World) (h1 : Rd w A n c xs) (h2 : Rd w A' n' c' ys) (hn : n ≤ 1000000 ∨ n' ≤ 1000000) :
    Calls Tryz.prog 102 #[.slice A n c, .slice A' n' c'] w (New w.heap.size w (xorL xs ys)) := by
  obtain ⟨i0, hi, hz0, hz1, hz2⟩ := info_parts Tryz.infoU8
  obtain ⟨m, hm⟩ : ∃ m, m = min n n' := ⟨_, rfl⟩
  have HM := Lib.hid hm
  have hmn : m ≤ n := by omega
  have hmn' : m ≤ n' := by omega
  have hmm : m ≤ 1000000 := by omega
  clear hn
  have l1 : n ≤ maxLen := Nat.le_trans h1.cap h1.max
  have l2 : n' ≤ maxLen := Nat.le_trans h2.cap h2.max
  unfold maxLen at l1 l2
  go_enter Tryz.func102, Tryz.ntmps102
  by_cases hle : n ≤ n'
  all_goals
    clear hm
    go_wp2_with (at_make; refine wpList_make_full _ rfl _ _ 24 rfl w.heap.size 5 i0 (.int .u8 0) 1 Tryz.underlying24 hi hz0 hz1 _ _ _ _ m rfl rfl (by have := HM.out; omega) (by have := HM.out; omega) (by rw [hz2]; omega) (by unfold maxLen; omega) (Nat.le_refl _) ?_)
    intro w0 hown0 hgrow0
    rw [bv_zero] at hown0
    have hb0 : Below w.heap.size w w0 := (Below.refl _ _).grown hgrow0 (Nat.le_refl _) (fun k h => by cases h)
    clear hgrow0
    go_wp2
    go_loopw [15] (fun i wr => ∃ k : Nat, k ≤ m ∧ i = .int .i64 (k : Int) ∧
        wr.ownsRow w.heap.size 5 1 (.slice (some ⟨w.heap.size, 0, none⟩) m m) m (bv ((xorL xs ys).take k ++ List.replicate (m - k) 0)) ∧ Below w.heap.size w wr)
      (fun i _ => m - (intOf i).toNat)
    case atStart => exact ⟨0, Nat.zero_le _, rfl, by simpa using hown0, hb0⟩
    case round =>
      obtain ⟨k, hk, rfl, hown, hbel⟩ := hrel
      by_cases hlt : k < m
      · obtain ⟨b1, o1, rfl, hb1, hc1⟩ := (h1.below hbel).at_ (by omega)
        obtain ⟨b2, o2, rfl, hb2, hc2⟩ := (h2.below hbel).at_ (by omega)
        have g1 := hc1 k (by omega)
        have g2 := hc2 k (by omega)
        have hc := hown.cellAt k (by omega)
        have hf := hown.frozenAt k
        have hs := hown.stored k
        have hin1 : (k : Int) < n := by omega
        have hin2 : (k : Int) < n' := by omega
        rw [bv_at _ _ (by have := HM.out; have e1 := h1.len; have e2 := h2.len; simp [xorL_length]; omega)] at hc
        clear hc1 hc2
        go_wp2
        go_region
        all_goals
          go_wp2
          go_roundw
          case rel => exact ⟨k + 1, by omega, by go_num, by rw [← xor_step xs ys k n n' m h1.len h2.len HM.out hlt]; exact (hs _).1.drew, (hbel.setCell (Nat.le_refl _) _).drew⟩
          case measure => simp [intOf]; omega
      · obtain rfl : k = m := by omega
        have e : (xorL xs ys).take k = xorL xs ys := List.take_of_length_le (by have := HM.out; have e1 := h1.len; have e2 := h2.len; simp [xorL_length]; omega)
        go_wp2
        go_ret
        exact ⟨_, _, _, rfl, by simpa [e] using hown, hbel⟩
end Go.Proofs.YtkpfppiedadmbaaGreatDoor

/-
  What the landed digits' small calls do: May, greatest; the library's Len. No statement is proved here.
-/
namespace Go.Proofs.YtkpfppiedadmbaaGreatDoor.S7
set_option linter.unusedSimpArgs false
set_option linter.unusedVariables false
set_option maxRecDepth 1024
open Go.RowKit

/-- The table of widths lies in its variable. -/
def WOk (w : World) : Prop := ∀ i, i < 4 → w.cell? ⟨1, i, none⟩ = some (.int .i64 (([1, 2, 4, 8] : List Int).getD i 0)) ∧ 1 < w.heap.size
theorem WOk.below {w w' : World} (h : WOk w) (hb : Below w.heap.size w w') : WOk w' := fun i hi => ⟨(hb.cell (h i hi).2).trans (h i hi).1, Nat.lt_of_lt_of_le (h i hi).2 hb.size⟩
theorem run_index_agg {P : Program} {T e : TypeId} {n : Nat} (hT : P.underlying T = some (.array n e)) (he : (P.info? e).map (·.size) = some 1) {ke : IntKind} (hu : P.underlying e = some (.int ke)) (cs : Array Value) (k : IntKind) (i : Int) (h0 : 0 ≤ i) (h1 : i < n) (v : Value) (hi : cs[i.toNat]? = some v)
    (h1v : v.oneCell' = true) (W : World) : (Instr.index T (.agg cs) (.int k i)).run P W = .ok v W := by
  cases hq : P.info? e with
  | none => simp [hq] at he
  | some i0 =>
    have hs : i0.size = 1 := by simpa [hq] using he
    simp [Instr.index, asIntOf, run_underlying hT, run_underlying hu, h0, h1, part, isAgg, sizeOf, typeInfo, hq, hs, hi]
theorem may_none {w : Int} (h : mayB w = false) : w ≠ 1 ∧ w ≠ 2 ∧ w ≠ 4 ∧ w ≠ 8 := by
  simp only [mayB, Bool.or_eq_false_iff, beq_eq_false_iff_ne] at h
  exact ⟨h.1.1.1, h.1.1.2, h.1.2, h.2⟩
theorem tab_mem (k : Nat) (hk : k < 4) : mayB (([1, 2, 4, 8] : List Int).getD k 0) = true := by
  obtain rfl | rfl | rfl | rfl : k = 0 ∨ k = 1 ∨ k = 2 ∨ k = 3 := by omega
  all_goals decide
theorem may_any (w : Int) (W : World) (h : WOk W) : Calls Tryz.prog 106 #[.int .i64 w] W fun e W' => e = .returned (.bool (mayB w)) ∧ W = W' := by
  have c0 := (h 0 (by omega)).1
  have c1 := (h 1 (by omega)).1
  have c2 := (h 2 (by omega)).1
  have c3 := (h 3 (by omega)).1
  have hd : ([1, 2, 4, 8] : List Int).getD 0 0 = 1 ∧ ([1, 2, 4, 8] : List Int).getD 1 0 = 2 ∧ ([1, 2, 4, 8] : List Int).getD 2 0 = 4 ∧ ([1, 2, 4, 8] : List Int).getD 3 0 = 8 := by decide
  rw [hd.1] at c0
  rw [hd.2.1] at c1
  rw [hd.2.2.1] at c2
  rw [hd.2.2.2] at c3
  obtain ⟨R, hR⟩ : ∃ R, R = mayB w := ⟨_, rfl⟩
  rw [← hR]
  have HR := Lib.hid hR
  clear hd h hR
  go_enter Tryz.func106, Tryz.ntmps106
  go_wp2
  go_loopw [6] (fun i wr => ∃ k : Nat, k ≤ 4 ∧ i = .int .i64 (k : Int) ∧ W = wr ∧ Hid (∀ j, j < k → w ≠ ([1, 2, 4, 8] : List Int).getD j 0)) (fun i _ => 4 - (intOf i).toNat)
  case atStart => exact ⟨0, Nat.zero_le _, rfl, rfl, Lib.hid (fun j hj => absurd hj (by omega))⟩
  case round =>
    obtain ⟨k, hk, rfl, rfl, hn⟩ := hrel
    by_cases hlt : k < 4
    · have i1 : (k : Int) < 4 := by omega
      obtain ⟨X, hX⟩ : ∃ X, X = ([1, 2, 4, 8] : List Int).getD k 0 := ⟨_, rfl⟩
      have HX := Lib.hid hX
      have hrun := fun W => run_index_agg (P := Tryz.prog) (T := 139) Tryz.underlying139 (by kernel_rfl) Tryz.underlying3 #[.int .i64 1, .int .i64 2, .int .i64 4, .int .i64 8] .i64 (k : Int) (by omega) (by omega) (.int .i64 X) (by
        rw [Int.toNat_natCast, hX]
        obtain rfl | rfl | rfl | rfl : k = 0 ∨ k = 1 ∨ k = 2 ∨ k = 3 := by omega
        all_goals rfl) rfl W
      clear hX
      by_cases he : w = X
      · subst he
        have HE := Lib.hid (show mayB w = true by rw [HX.out]; exact tab_mem k hlt)
        go_wp2
        go_ret
        exact ⟨by rw [HR.out, HE.out]; rfl, rfl⟩
      · go_wp2
        go_roundw
        case rel => exact ⟨k + 1, by omega, by go_num, trivial, Lib.hid (fun j hj => by
          by_cases hjk : j < k
          · exact hn.out j hjk
          · obtain rfl : j = k := by omega
            rw [← HX.out]; exact he)⟩
        case measure => simp [intOf]; omega
    · obtain rfl : k = 4 := by omega
      have i1 : ¬ (4 : Int) < 4 := by omega
      have HF := Lib.hid (show mayB w = false by
        have h9 := hn.out
        have e0 := h9 0 (by omega)
        have e1 := h9 1 (by omega)
        have e2 := h9 2 (by omega)
        have e3 := h9 3 (by omega)
        simp at e0 e1 e2 e3
        simp [mayB, e0, e1, e2, e3])
      go_wp2
      go_ret
      exact ⟨by rw [HR.out, HF.out]; rfl, rfl⟩
theorem great_any (v : Nat) (hv : wid v) (W : World) : Calls Tryz.prog 107 #[.int .i64 (v : Int)] W fun e W' => e = .returned (.int .i64 ((2 ^ v - 1 : Nat) : Int)) ∧ W = W' := by
  rcases hv with rfl | rfl | rfl | rfl <;>
  · go_enter Tryz.func107, Tryz.ntmps107
    go_wp2_with (simp only [↓fold8])
    go_ret
    exact ⟨rfl, rfl⟩
set_option maxRecDepth 100000 in
theorem fold8 : (⟨((([0, 1, 2, 2, 3, 3, 3, 3, 4, 4, 4, 4, 4, 4, 4, 4, 5, 5, 5, 5, 5, 5, 5, 5, 5, 5, 5, 5, 5, 5, 5, 5, 6, 6, 6, 6, 6, 6, 6, 6, 6, 6, 6, 6, 6, 6, 6, 6, 6, 6, 6, 6, 6, 6, 6, 6, 6, 6, 6, 6, 6, 6, 6, 6] : List UInt8).append [7, 7, 7, 7, 7, 7, 7, 7, 7, 7, 7, 7, 7, 7, 7, 7, 7, 7, 7, 7, 7, 7, 7, 7, 7, 7, 7, 7, 7, 7, 7, 7, 7, 7, 7, 7, 7, 7, 7, 7, 7, 7, 7, 7, 7, 7, 7, 7, 7, 7, 7, 7, 7, 7, 7, 7, 7, 7, 7, 7, 7, 7, 7, 7]).append (([8, 8, 8, 8, 8, 8, 8, 8, 8, 8, 8, 8, 8, 8, 8, 8, 8, 8, 8, 8, 8, 8, 8, 8, 8, 8, 8, 8, 8, 8, 8, 8, 8, 8, 8, 8, 8, 8, 8, 8, 8, 8, 8, 8, 8, 8, 8, 8, 8, 8, 8, 8, 8, 8, 8, 8, 8, 8, 8, 8, 8, 8, 8, 8] : List UInt8).append [8, 8, 8, 8, 8, 8, 8, 8, 8, 8, 8, 8, 8, 8, 8, 8, 8, 8, 8, 8, 8, 8, 8, 8, 8, 8, 8, 8, 8, 8, 8, 8, 8, 8, 8, 8, 8, 8, 8, 8, 8, 8, 8, 8, 8, 8, 8, 8, 8, 8, 8, 8, 8, 8, 8, 8, 8, 8, 8, 8, 8, 8, 8, 8])).toArray⟩ : ByteArray) = Lib.len8tab := rfl

set_option maxHeartbeats 4000000 in
set_option maxRecDepth 100000 in
theorem len64_any (X : Nat) (hX : X < 65536) (W : World) : Calls Tryz.prog 119 #[.int .u64 (X : Int)] W fun e W' => e = .returned (.int .i64 ((Lib.bitLen X : Nat) : Int)) ∧ W = W' := by
  have h1 : ¬ (4294967296 : Int) ≤ (X : Int) := by omega
  have h2 : ¬ (65536 : Int) ≤ (X : Int) := by omega
  by_cases h3 : X < 256
  · have h4 : ¬ (256 : Int) ≤ (X : Int) := by omega
    have hrun := fun W => Lib.run_index_len8tab (P := Tryz.prog) W 9 .u8 (X : Int) Tryz.underlying9 (by omega) (by omega)
    have e1 : Lib.len8 (X : Int) = ((Lib.bitLen X : Nat) : Int) := by rw [Lib.len8_of _ (by omega) (by omega), Int.toNat_natCast]
    have hB : Lib.bitLen X ≤ 8 := by
      have := Lib.bitLen_le8' (X : Int) (by omega) (by omega)
      rwa [Int.toNat_natCast] at this
    rw [e1] at hrun
    obtain ⟨B, hB0⟩ : ∃ B, B = Lib.bitLen X := ⟨_, rfl⟩
    rw [← hB0] at hrun hB ⊢
    clear e1 hB0
    refine calls_of_wp Tryz.func119 rfl ?_
    rw [fold8]
    obtain ⟨T, hT⟩ : ∃ T, T = Lib.len8tab := ⟨_, rfl⟩
    rw [← hT] at hrun ⊢
    clear hT
    simp only [Tryz.ntmps119, List.size_toArray, List.length_cons, List.length_nil, Nat.reduceAdd, Nat.reduceSub, Array.replicate_succ, Array.replicate_zero, List.push_toArray, List.append_toArray, List.nil_append, List.cons_append]
    go_wp2
    go_ret
    exact ⟨rfl, rfl⟩
  · have h4 : (256 : Int) ≤ (X : Int) := by omega
    obtain ⟨Y, hY⟩ : ∃ Y, Y = X / 256 := ⟨_, rfl⟩
    have hrun := fun W => Lib.run_index_len8tab (P := Tryz.prog) W 9 .u8 (Y : Int) Tryz.underlying9 (by omega) (by omega)
    have e1 : Lib.len8 (Y : Int) = ((Lib.bitLen Y : Nat) : Int) := by rw [Lib.len8_of _ (by omega) (by omega), Int.toNat_natCast]
    have e2 : Lib.bitLen X = 8 + Lib.bitLen Y := by rw [hY]; exact Lib.bitLen_shift8 X (by omega) (by omega)
    have hB : Lib.bitLen Y ≤ 8 := by
      have := Lib.bitLen_le8' (Y : Int) (by omega) (by omega)
      rwa [Int.toNat_natCast] at this
    rw [e1] at hrun
    rw [e2]
    obtain ⟨B, hB0⟩ : ∃ B, B = Lib.bitLen Y := ⟨_, rfl⟩
    rw [← hB0] at hrun hB ⊢
    have y1 : (X : Int) / 256 = (Y : Int) := by omega
    have y2 : Y < 256 := by omega
    clear e1 hB0 e2 hY
    refine calls_of_wp Tryz.func119 rfl ?_
    rw [fold8]
    obtain ⟨T, hT⟩ : ∃ T, T = Lib.len8tab := ⟨_, rfl⟩
    rw [← hT] at hrun ⊢
    clear hT
    simp only [Tryz.ntmps119, List.size_toArray, List.length_cons, List.length_nil, Nat.reduceAdd, Nat.reduceSub, Array.replicate_succ, Array.replicate_zero, List.push_toArray, List.append_toArray, List.nil_append, List.cons_append]
    go_wp2
    go_ret
    exact ⟨by go_num, rfl⟩
theorem len_any (X : Nat) (hX : X < 65536) (W : World) : Calls Tryz.prog 108 #[.int .u64 (X : Int)] W fun e W' => e = .returned (.int .i64 ((Lib.bitLen X : Nat) : Int)) ∧ W = W' := by
  obtain ⟨B, hB0⟩ : ∃ B, B = Lib.bitLen X := ⟨_, rfl⟩
  have HL := Lib.hid (fun W => len64_any X hX W)
  rw [← hB0] at HL ⊢
  clear hB0
  go_enter Tryz.func108, Tryz.ntmps108
  go_wp2_with (go_at_call 119; ((with_reducible refine (HL.out _).mono ?_); rintro e w1 ⟨rfl, rfl⟩))
  go_ret
  exact ⟨rfl, rfl⟩
end Go.Proofs.YtkpfppiedadmbaaGreatDoor.S7

/-
  Digits by their places, in plain words: the digit k of byte i; a byte raised by one digit's one. No statement is proved here.
-/
namespace Go.Proofs.YtkpfppiedadmbaaGreatDoor.S7
set_option linter.unusedSimpArgs false
set_option linter.unusedVariables false
set_option maxRecDepth 1024

theorem ofL_pos (w : Nat) (hw : wid w) (xs : List UInt8) (i k : Nat) (hi : i < xs.length) (hk : k < 8 / w) : (ofL w xs)[i * (8 / w) + k]? = some (dg w (xs.getD i 0).toNat k) := by
  have h9 : 0 < 8 / w := by omega
  have hl : i * (8 / w) + k < xs.length * (8 / w) := by
    have : (i + 1) * (8 / w) ≤ xs.length * (8 / w) := Nat.mul_le_mul_right _ hi
    rw [Nat.succ_mul] at this
    omega
  have hc : ∀ q, w * q / 8 = q / (8 / w) ∧ w * q % 8 / w = q % (8 / w) := by
    intro q
    rcases hw with h | h | h | h <;> subst h <;> simp <;> omega
  rw [ofL_at w hw xs _ hl, (hc _).1, (hc _).2]
  have e1 : (i * (8 / w) + k) / (8 / w) = i := by
    rw [Nat.mul_comm, Nat.mul_add_div h9, Nat.div_eq_of_lt hk, Nat.add_zero]
  have e2 : (i * (8 / w) + k) % (8 / w) = k := by
    rw [Nat.mul_comm, Nat.mul_add_mod, Nat.mod_eq_of_lt hk]
  rw [e1, e2]
theorem ofB_take (w x k : Nat) (hk : k < 8 / w) : (ofB w x).take (k + 1) = (ofB w x).take k ++ [dg w x k] := by
  rw [List.take_add_one]
  simp [ofB, hk]
theorem val_le (w x k : Nat) (hw : wid w) (hx : x < 256) (hk : k ≤ 8 / w) : val (2 ^ w) ((ofB w x).take k) ≤ x := by
  have h8 := wid_div hw
  have hwk : w * k ≤ 8 := by
    have := Nat.mul_le_mul_left w hk
    omega
  have e : (ofB w x).take k = (List.range k).map fun i => x / 2 ^ (8 - w * (i + 1)) % 2 ^ w := by
    unfold ofB
    rw [← List.map_take, List.take_range, Nat.min_eq_left hk]
    rfl
  rw [e, val_take w 8 x k hwk hx]
  exact Nat.div_le_self _ _
theorem lk_bound (w : Nat) (hw : wid w) (ds : List Nat) (j : Nat) : lk w (ds.take j) ≤ 255 * ds.length := by
  have h1 := lk_le w (ds.take j)
  have h2 : (2 ^ w - 1) ≤ 255 := by rcases hw with h | h | h | h <;> subst h <;> decide
  exact Nat.le_trans h1 (Nat.mul_le_mul h2 (by rw [List.length_take]; omega))
theorem lk_step (w : Nat) (xs : List Nat) (j d : Nat) (h : xs[j]? = some d) : lk w (xs.take (j + 1)) = lk w (xs.take j) + (2 ^ w - 1 - d) := by
  rw [List.take_add_one, h, lk_append]
  simp [lk]
end Go.Proofs.YtkpfppiedadmbaaGreatDoor.S7
