/-
  Texts put together: Sl2, Same, Dk2, Dk3, Dk4, Step, Tool, Dk5, Dk6, Dk7. No statement is proved here.
-/
import Derived.Test.YtnoflgkjdibblaaGreatDoorWb04
import Derived.Test.YtnoflgkjdibblaaGreatDoorWb01
import Derived.RegionTactic
import Derived.ChangeAlike
import Derived.Deep.Draws
import Derived.Deep.Cut
import Derived.Deep.RegionHeld3
import Derived.Deep.DrawnRows
import Derived.Deep.AppendLies
import Derived.Lib.SlBytesConst

/-
  Numbers as bytes, and what a record's bytes say. No statement is proved here.
-/
namespace Go.Proofs.YtnoflgkjdibblaaGreatDoor.S20
set_option linter.unusedSimpArgs false
set_option linter.unusedVariables false
open S19 (Dk)

theorem getL_at (xs : List UInt8) : ∀ a : Nat, xs.foldl (fun v c => v * 256 + c.toNat) a = a * 256 ^ xs.length + getL xs := by
  induction xs with
  | nil => intro a; simp [getL]
  | cons c xs ih =>
    intro a
    have e : getL (c :: xs) = xs.foldl (fun v c => v * 256 + c.toNat) (0 * 256 + c.toNat) := rfl
    rw [List.foldl_cons, ih, e, ih, List.length_cons, Nat.pow_succ]
    have h1 : (a * 256 + c.toNat) * 256 ^ xs.length = a * (256 ^ xs.length * 256) + c.toNat * 256 ^ xs.length := by
      rw [Nat.add_mul, Nat.mul_assoc, Nat.mul_comm 256]
    have h2 : (0 * 256 + c.toNat) * 256 ^ xs.length = c.toNat * 256 ^ xs.length := by rw [Nat.zero_mul, Nat.zero_add]
    omega
theorem getL_cons (c : UInt8) (xs : List UInt8) : getL (c :: xs) = c.toNat * 256 ^ xs.length + getL xs := by
  have e : getL (c :: xs) = xs.foldl (fun v c => v * 256 + c.toNat) (0 * 256 + c.toNat) := rfl
  rw [e, getL_at, Nat.zero_mul, Nat.zero_add]
theorem getL_putL (V : Nat) : ∀ n, getL (putL V n) = V % 256 ^ n
  | 0 => by simp [putL, getL, Nat.mod_one]
  | n + 1 => by
    rw [putL, getL_cons, getL_putL V n, putL_length]
    have h1 : (UInt8.ofNat (V / 256 ^ n)).toNat = V / 256 ^ n % 256 := by simp
    rw [h1, Nat.pow_succ, Nat.mod_mul, Nat.mul_comm (256 ^ n)]
    omega
theorem numOf_rec {num : Nat} (h : num < 18446744073709551616) (b : List UInt8) (n : Nat) : numOf (recB num b n) = num := by
  unfold numOf
  have e : (recB num b n).take 8 = putL num 8 := by
    unfold recB fullB headB
    rw [List.append_assoc, List.append_assoc, List.append_assoc, List.append_assoc, List.take_append_of_le_length (by simp [putL_length]), List.take_of_length_le (by simp [putL_length])]
  rw [e, getL_putL]
  exact Nat.mod_eq_of_lt (by have e : (256 : Nat) ^ 8 = 18446744073709551616 := by decide
                             omega)
theorem drop12 (num : Nat) (b : List UInt8) (n : Nat) : (recB num b n).drop 12 = b ++ ((S2.sum (headB num b)).take 16 ++ List.replicate (64 * n - (28 + b.length)) 0) := by
  unfold recB fullB
  generalize (S2.sum (headB num b)).take 16 = s
  generalize List.replicate (64 * n - (28 + b.length)) (0 : UInt8) = r
  show ((putL num 8 ++ putL b.length 4 ++ b) ++ s ++ r).drop 12 = b ++ (s ++ r)
  rw [List.append_assoc, List.append_assoc, List.drop_append_of_le_length (by simp [putL_length]), List.drop_of_length_le (by simp [putL_length]), List.nil_append]
theorem cntOf_rec (num : Nat) {b : List UInt8} (hb : b.length < 4294967296) (n : Nat) : cntOf (recB num b n) = b.length := by
  unfold cntOf
  have e : ((recB num b n).drop 8).take 4 = putL b.length 4 := by
    unfold recB fullB headB
    rw [List.append_assoc, List.append_assoc, List.append_assoc, List.append_assoc, List.drop_append_of_le_length (by simp [putL_length]), List.drop_of_length_le (by simp [putL_length]), List.nil_append, List.take_append_of_le_length (by simp [putL_length]), List.take_of_length_le (by simp [putL_length])]
  rw [e, getL_putL]
  exact Nat.mod_eq_of_lt (by have e : (256 : Nat) ^ 4 = 4294967296 := by decide
                             omega)
theorem dataOf_rec (num : Nat) {b : List UInt8} (hb : b.length < 4294967296) (n : Nat) : dataOf (recB num b n) = b := by
  unfold dataOf
  rw [cntOf_rec num hb, drop12, List.take_append_of_le_length (Nat.le_refl _), List.take_of_length_le (Nat.le_refl _)]
/-- A record is whole. -/
theorem whole_rec {num n : Nat} (h0 : num ≠ 0) (h : num < 18446744073709551616) (h1 : 1 ≤ n) (h8 : n ≤ 8) {b : List UInt8} (hb : b.length ≤ room n) : whole (recB num b n) n = (num, b) := by
  have hr := room_nat h1 h8
  have hb' : b.length < 4294967296 := by omega
  have e1 := numOf_rec h b n
  have e2 := cntOf_rec num hb' n
  have e3 := dataOf_rec num hb' n
  unfold whole
  rw [if_pos (show wholeP _ _ from ⟨by rw [e1]; exact h0, by rw [e2]; exact hb, by rw [e1, e3]⟩), e1, e3]
theorem whole_lt (xs : List UInt8) (n : Nat) : (whole xs n).1 < 18446744073709551616 := by
  unfold whole
  split
  · exact numOf_lt xs
  · show 0 < 18446744073709551616
    omega
end Go.Proofs.YtnoflgkjdibblaaGreatDoor.S20

/-
  What the document's own Same does.
-/
namespace Go.Proofs.YtnoflgkjdibblaaGreatDoor
set_option linter.unusedSimpArgs false
set_option linter.unusedVariables false
set_option maxRecDepth 1024
open Go.RowKit

def sameB (xs ys : List UInt8) : Bool := xs == ys
theorem sameB_refl (xs : List UInt8) : sameB xs xs = true := by simp [sameB]
theorem take_next {xs ys : List UInt8} {k : Nat} (h : xs.take k = ys.take k) (hx : k < xs.length) (hy : k < ys.length) (he : xs[k]?.getD 0 = ys[k]?.getD 0) : xs.take (k + 1) = ys.take (k + 1) := by
  rw [List.take_succ_eq_append_getElem hx, List.take_succ_eq_append_getElem hy, h]
  simp [hx, hy] at he
  rw [he]

set_option maxHeartbeats 1000000 in
theorem rsame_any (A A' : Option Addr) (n c n' c' : Nat) (xs ys : List UInt8) (w : World) (h1 : Rd w A n c xs) (h2 : Rd w A' n' c' ys) :
    Calls Tryz.prog 26 #[.slice A n c, .slice A' n' c'] w fun e w' => e = .returned (.bool (sameB xs ys)) ∧ ∃ q, w' = w.drewN q := by
  have l1 : n ≤ maxLen := Nat.le_trans h1.cap h1.max
  have l2 : n' ≤ maxLen := Nat.le_trans h2.cap h2.max
  unfold maxLen at l1 l2
  have e1 := h1.len
  have e2 := h2.len
  by_cases hnn : n = n'
  · subst hnn
    have E1 := Lib.hid e1
    have E2 := Lib.hid e2
    clear e1 e2
    go_enter Tryz.func26, Tryz.ntmps26
    go_wp2
    go_loopw [5] (fun i wr => ∃ k q : Nat, k ≤ n ∧ i = .int .i64 (k : Int) ∧ wr = w.drewN q ∧ xs.take k = ys.take k) (fun i _ => n - (intOf i).toNat)
    case atStart => exact ⟨0, 0, Nat.zero_le _, rfl, rfl, rfl⟩
    case round =>
      obtain ⟨k, q, hk, rfl, rfl, hpre⟩ := hrel
      have HP := Lib.hid hpre
      clear hpre
      by_cases hlt : k < n
      · obtain ⟨b1, o1, rfl, hb1, hc1⟩ := h1.at_ (by omega)
        obtain ⟨b2, o2, rfl, hb2, hc2⟩ := h2.at_ (by omega)
        have g1 := hc1 k hlt
        have g2 := hc2 k hlt
        have hki : (k : Int) < n := by omega
        simp only [List.getD_eq_getElem?_getD] at g1 g2
        clear hc1 hc2
        by_cases heq : xs[k]?.getD 0 = ys[k]?.getD 0
        · have HE := Lib.hid heq
          have ht : (((xs[k]?.getD 0).toNat : Int) != ((ys[k]?.getD 0).toNat : Int)) = false := by rw [heq]; simp
          clear heq
          go_wp2
          go_region
          go_wp2
          go_roundw
          case rel => exact ⟨k + 1, q + 1, by omega, by go_num, rfl, take_next HP.out (by have := E1.out; omega) (by have := E2.out; omega) HE.out⟩
          case measure => simp [intOf]; omega
        · have hne : sameB xs ys = false := by
            simp only [sameB, beq_eq_false_iff_ne]
            intro e; rw [e] at heq; exact heq rfl
          have ht : (((xs[k]?.getD 0).toNat : Int) != ((ys[k]?.getD 0).toNat : Int)) = true := by
            simp only [bne_iff_ne, ne_eq]
            intro e
            exact heq (UInt8.toNat_inj.1 (by omega))
          have HN := Lib.hid hne
          clear heq hne
          go_wp2
          go_region
          go_wp2
          go_ret
          exact ⟨by rw [HN.out]; rfl, q + 1, rfl⟩
      · obtain rfl : k = n := by omega
        have hs : sameB xs ys = true := by
          have hp := HP.out
          rw [List.take_of_length_le (by have := E1.out; omega), List.take_of_length_le (by have := E2.out; omega)] at hp
          rw [hp]; exact sameB_refl _
        have HN := Lib.hid hs
        clear hs
        go_wp2
        go_ret
        exact ⟨by rw [HN.out]; rfl, q, rfl⟩
  · have hne : sameB xs ys = false := by
      simp only [sameB, beq_eq_false_iff_ne]
      intro e; rw [e] at e1; omega
    have HN := Lib.hid hne
    have ht : ((n : Int) != (n' : Int)) = true := by simp; omega
    clear hne e1 e2 hnn
    go_enter Tryz.func26, Tryz.ntmps26
    go_wp2
    go_ret
    exact ⟨by rw [HN.out]; rfl, 0, rfl⟩

theorem rsame_true (A A' : Option Addr) (n c n' c' : Nat) (xs ys : List UInt8) (w : World) (h1 : Rd w A n c xs) (h2 : Rd w A' n' c' ys) (he : xs = ys) :
    Calls Tryz.prog 26 #[.slice A n c, .slice A' n' c'] w fun e w' => e = .returned (.bool true) ∧ Below w.heap.size w w' :=
  (rsame_any A A' n c n' c' xs ys w h1 h2).mono fun e w' ⟨h, q, hq⟩ => ⟨by rw [h, he, sameB_refl], by rw [hq]; exact ⟨rfl, rfl, rfl, Nat.le_refl _, fun _ _ => rfl⟩⟩
theorem own_lit_u8 (w : World) (B : Nat) (xs : List UInt8) (hB : B ≤ w.heap.size) (hm : xs.length ≤ maxLen) :
    (w.alloc (.cells (bv xs).toArray 5)).ownsRow B 5 1 (.slice (some ⟨w.heap.size, 0, none⟩) xs.length xs.length) xs.length (bv xs) := by
  have := World.ownsRow_lit (base := B) (e := 5) (size := 1) w (bv xs).toArray xs.length hB hm (by simp [bv_length])
  simpa using this
theorem rd_lit (w : World) (vs : Array Value) (xs : List UInt8) (h : vs.toList = bv xs) (hm : xs.length ≤ maxLen) (b : Nat) (hb : w.heap.size = b) : Rd (w.alloc (.cells vs 5)) (some ⟨b, 0, none⟩) xs.length xs.length xs := by
  subst hb
  obtain ⟨vs⟩ := vs
  simp only at h
  subst h
  exact Rd.of_bk (Bk.newAt _ _ _ _ rfl) rfl (Nat.le_refl _) hm fun j hj => by rw [Nat.zero_add]; exact bv_getElem? _ _ hj
end Go.Proofs.YtnoflgkjdibblaaGreatDoor

/-
  What the calls of package disk are to do, as one structure; what a call on a disk may touch. No statement is proved here.
-/
namespace Go.Proofs.YtnoflgkjdibblaaGreatDoor.S19
set_option linter.unusedSimpArgs false
set_option linter.unusedVariables false
open Go.RowKit

/-- What a call on something that lies in the blocks of F may touch: these, and new ones; what lay below N stays. -/
structure Mv (N : Nat) (F : Nat → Prop) (w w' : World) : Prop where
  bel : Below N w w'
  same : ∀ b, b < w.heap.size → ¬ F b → w'.heap[b]? = w.heap[b]?
section
variable {N : Nat} {F F' : Nat → Prop} {w w' w'' : World}
theorem Mv.refl (N : Nat) (F : Nat → Prop) (w : World) : Mv N F w w := ⟨Below.refl _ _, fun _ _ _ => rfl⟩
theorem Mv.trans (h : Mv N F w w') (k : Mv N F' w' w'') (hF : ∀ b, F' b → F b ∨ w.heap.size ≤ b) : Mv N F w w'' :=
  ⟨h.bel.trans k.bel, fun b h1 h2 => (k.same b (Nat.lt_of_lt_of_le h1 h.bel.size) fun e => (hF b e).elim h2 fun e => by omega).trans (h.same b h1 h2)⟩
theorem Mv.of (hN : N ≤ w.heap.size) (h : Below w.heap.size w w') : Mv N F w w' := ⟨h.mono hN, fun b h1 _ => h.block b h1⟩
theorem Mv.size (h : Mv N F w w') : w.heap.size ≤ w'.heap.size := h.bel.size
theorem Mv.mono (h : Mv N F w w') (hF : ∀ b, F b → F' b) : Mv N F' w w' := ⟨h.bel, fun b h1 h2 => h.same b h1 fun e => h2 (hF b e)⟩
theorem Mv.rd (h : Mv N F w w') {A : Option Addr} {m c : Nat} {xs : List UInt8} (hr : Rd w A m c xs) (ha : ∀ a, 0 < m → A = some a → ¬ F a.block) : Rd w' A m c xs := by
  refine ⟨hr.len, hr.cap, hr.max, hr.nil, fun hn => ?_⟩
  obtain ⟨b, off, rfl, hb, hc⟩ := hr.at_ hn
  exact ⟨b, off, rfl, Nat.lt_of_lt_of_le hb h.size, fun j hj => (World.cell?_of_block (a := ⟨b, off + j, none⟩) (h.same b hb (ha _ hn rfl))).trans (hc j hj)⟩
theorem Mv.bk (h : Mv N F w w') {g : Nat} {t : TypeId} {cs : Array Value} (hb : Bk w g t cs) (hg : ¬ F g) : Bk w' g t cs := (h.same _ hb.lt hg).trans hb
end

/-- A row of whole numbers. -/
structure RI (w : World) (k : IntKind) (A : Option Addr) (n c : Nat) (xs : List Int) : Prop where
  len : xs.length = n
  cap : n ≤ c
  max : c ≤ maxLen
  nil : A = none → c = 0
  at_ : 0 < n → ∃ b off, A = some ⟨b, off, none⟩ ∧ b < w.heap.size ∧ ∀ j, j < n → w.cell? ⟨b, off + j, none⟩ = some (.int k (xs.getD j 0))
theorem RI.nil_ (w : World) (k : IntKind) : RI w k none 0 0 [] := ⟨rfl, Nat.le_refl _, by simp [maxLen], fun _ => rfl, fun h => absurd h (by omega)⟩
theorem RI.keep {w w' : World} {k : IntKind} {A : Option Addr} {n c : Nat} {xs : List Int} (h : RI w k A n c xs) (hs : w.heap.size ≤ w'.heap.size) (hk : ∀ a, 0 < n → A = some a → a.block < w.heap.size → w'.heap[a.block]? = w.heap[a.block]?) : RI w' k A n c xs :=
  ⟨h.len, h.cap, h.max, h.nil, fun hn => by
    obtain ⟨b, off, rfl, hb, hc⟩ := h.at_ hn
    exact ⟨b, off, rfl, Nat.lt_of_lt_of_le hb hs, fun j hj => (World.cell?_of_block (a := ⟨b, off + j, none⟩) (hk ⟨b, off, none⟩ hn rfl hb)).trans (hc j hj)⟩⟩
theorem RI.below {w w' : World} {k : IntKind} {A : Option Addr} {n c : Nat} {xs : List Int} (h : RI w k A n c xs) (hb : Below w.heap.size w w') : RI w' k A n c xs :=
  h.keep hb.size fun a _ _ ha => hb.block _ ha

/-- What a call on a disk comes to: an answer, and the disk. -/
def Post (Is : Nat → World → Nat → Dk → (Nat → Prop) → Prop) (N : Nat) (F : Nat → Prop) (g : Nat) (w : World) (D' : Dk) (v : Value) (e : Ending) (w' : World) : Prop :=
  e = .returned v ∧ ∃ F', Is N w' g D' F' ∧ (∀ b, F' b → F b ∨ w.heap.size ≤ b) ∧ Mv N F w w'
/-- Slices of rows of a disk. -/
structure Rs (w : World) (S : Nat → Prop) (A : Option Addr) (n c : Nat) (xss : List (List UInt8)) : Prop where
  len : xss.length = n
  cap : n ≤ c
  max : c ≤ maxLen
  nil : A = none → c = 0
  at_ : 0 < n → ∃ b off, A = some ⟨b, off, none⟩ ∧ b < w.heap.size ∧ S b ∧ ∀ j, j < n → ∃ A' m c', w.cell? ⟨b, off + j, none⟩ = some (.slice A' m c') ∧ Rd w A' m c' (xss.getD j []) ∧ ∀ a, 0 < m → A' = some a → S a.block
theorem Rs.keep {w w' : World} {S : Nat → Prop} {A : Option Addr} {n c : Nat} {xss : List (List UInt8)} (h : Rs w S A n c xss) (hs : w.heap.size ≤ w'.heap.size) (hk : ∀ b, S b → b < w.heap.size → w'.heap[b]? = w.heap[b]?) : Rs w' S A n c xss :=
  ⟨h.len, h.cap, h.max, h.nil, fun hn => by
    obtain ⟨b, off, rfl, hb, hS, hc⟩ := h.at_ hn
    refine ⟨b, off, rfl, Nat.lt_of_lt_of_le hb hs, hS, fun j hj => ?_⟩
    obtain ⟨A', m, c', h1, h2, h3⟩ := hc j hj
    refine ⟨A', m, c', (World.cell?_of_block (a := ⟨b, off + j, none⟩) (hk b hS hb)).trans h1, ⟨h2.len, h2.cap, h2.max, h2.nil, fun hm => ?_⟩, h3⟩
    obtain ⟨b', off', rfl, hb', hc'⟩ := h2.at_ hm
    exact ⟨b', off', rfl, Nat.lt_of_lt_of_le hb' hs, fun i hi => (World.cell?_of_block (a := ⟨b', off' + i, none⟩) (hk b' (h3 _ hm rfl) hb')).trans (hc' i hi)⟩⟩
structure DC where
  ok : World → Prop
  bel : ∀ {w w' : World}, ok w → Below w.heap.size w w' → ok w'
  Is : Nat → World → Nat → Dk → (Nat → Prop) → Prop
  okD : ∀ {N : Nat} {w : World} {g : Nat} {D : Dk} {F : Nat → Prop}, Is N w g D F → D.Ok
  lt : ∀ {N : Nat} {w : World} {g : Nat} {D : Dk} {F : Nat → Prop}, Is N w g D F → ∀ b, F b → N ≤ b ∧ b < w.heap.size
  keep : ∀ {N : Nat} {w w' : World} {g : Nat} {D : Dk} {F : Nat → Prop}, Is N w g D F → w.heap.size ≤ w'.heap.size → (∀ b, (b < N ∨ F b) → b < w.heap.size → w'.heap[b]? = w.heap[b]?) → Is N w' g D F
  new : ∀ (N : Nat) (w : World) (k : Nat), ok w → N ≤ w.heap.size → 1 ≤ k → k ≤ 256 → Calls Tryz.prog 6 #[.int .i64 (k : Int)] w fun e w' => ∃ g F, e = .returned (.tuple #[.pointer (some ⟨g, 0, none⟩), .int .i64 0]) ∧ Is N w' g (Dk.new k) F ∧ (∀ b, F b → w.heap.size ≤ b) ∧ Below w.heap.size w w'
  newNot : ∀ (w : World) (k : Int), ok w → k < 1 ∨ 256 < k → k < 9223372036854775808 → -9223372036854775808 ≤ k → Calls Tryz.prog 6 #[.int .i64 k] w fun e w' => ∃ v, e = .returned (.tuple #[v, .int .i64 1]) ∧ Below w.heap.size w w'
  plan : ∀ (N : Nat) (w : World) (g : Nat) (D : Dk) (F : Nat → Prop) (A : Option Addr) (n c : Nat) (fs : List Int) (st : Int), ok w → Is N w g D F → RI w .i64 A n c fs → n ≤ 1099511627776 → Calls Tryz.prog 17 #[.pointer (some ⟨g, 0, none⟩), .agg #[.slice A n c, .int .i64 st]] w fun e w' =>
    e = .returned (.tuple #[]) ∧ ∃ F', Is N w' g (D.plan fs st) F' ∧ (∀ b, F' b → F b ∨ w.heap.size ≤ b ∨ N ≤ b ∧ ∃ a, 0 < n ∧ A = some a ∧ a.block = b) ∧ Mv N F w w'
  read : ∀ (N : Nat) (w : World) (g : Nat) (D : Dk) (F : Nat → Prop) (i : Int), ok w → Is N w g D F → Calls Tryz.prog 81 #[.pointer (some ⟨g, 0, none⟩), .int .i64 i] w fun e w' =>
    ∃ A c F', e = .returned (.tuple #[.slice A (D.readB i).length c, .int .i64 (D.readC i : Int)]) ∧ Rd w' A (D.readB i).length c (D.readB i) ∧ (∀ a, 0 < (D.readB i).length → A = some a → w.heap.size ≤ a.block ∧ ¬ F' a.block) ∧ Is N w' g D F' ∧ (∀ b, F' b → F b ∨ w.heap.size ≤ b) ∧ Mv N F w w'
  write : ∀ (N : Nat) (w : World) (g : Nat) (D : Dk) (F : Nat → Prop) (i : Int) (A : Option Addr) (n c : Nat) (b : List UInt8), ok w → Is N w g D F → Rd w A n c b → (∀ a, 0 < n → A = some a → ¬ F a.block) → D.cnt < 1099511627776 → Calls Tryz.prog 85 #[.pointer (some ⟨g, 0, none⟩), .int .i64 i, .slice A n c] w (Post Is N F g w (D.write i b) (.int .i64 (D.writeC i b : Int)))
  flush : ∀ (N : Nat) (w : World) (g : Nat) (D : Dk) (F : Nat → Prop), ok w → Is N w g D F → D.cnt < 1099511627776 → Calls Tryz.prog 60 #[.pointer (some ⟨g, 0, none⟩)] w (Post Is N F g w D.flush (.int .i64 (D.stepC : Int)))
  stop : ∀ (N : Nat) (w : World) (g : Nat) (D : Dk) (F : Nat → Prop), ok w → Is N w g D F → Calls Tryz.prog 18 #[.pointer (some ⟨g, 0, none⟩)] w (Post Is N F g w D.halt (.tuple #[]))
  up : ∀ (N : Nat) (w : World) (g : Nat) (D : Dk) (F : Nat → Prop) (A' : Option Addr) (n' c' : Nat) (ch : List UInt8) (A : Option Addr) (n c : Nat) (fs : List Int) (st : Int), ok w → Is N w g D F → Rd w A' n' c' ch → (∀ a, 0 < n' → A' = some a → ¬ F a.block) → RI w .i64 A n c fs → (∀ a, 0 < n → A = some a → ¬ F a.block) → n ≤ 1099511627776 → Calls Tryz.prog 19 #[.pointer (some ⟨g, 0, none⟩), .slice A' n' c', .agg #[.slice A n c, .int .i64 st]] w fun e w' =>
    e = .returned (.tuple #[]) ∧ ∃ F', Is N w' g (D.up ch fs st) F' ∧ (∀ b, F' b → F b ∨ w.heap.size ≤ b ∨ N ≤ b ∧ ∃ a, 0 < n ∧ A = some a ∧ a.block = b) ∧ Mv N F w w'
  sure : ∀ (N : Nat) (w : World) (g : Nat) (D : Dk) (F : Nat → Prop), ok w → Is N w g D F → Calls Tryz.prog 24 #[.pointer (some ⟨g, 0, none⟩)] w fun e w' =>
    ∃ A c F', e = .returned (.slice A D.sure.length c) ∧ Rs w' (fun b => w.heap.size ≤ b ∧ ¬ F' b) A D.sure.length c D.sure ∧ Is N w' g D F' ∧ (∀ b, F' b → F b ∨ w.heap.size ≤ b) ∧ Mv N F w w'
end Go.Proofs.YtnoflgkjdibblaaGreatDoor.S19

/-
  A sector's bytes as the statements of layer 19 lay them. No statement is proved here.
-/
namespace Go.Proofs.YtnoflgkjdibblaaGreatDoor.S19
set_option linter.unusedSimpArgs false
set_option linter.unusedVariables false
set_option maxRecDepth 4096
open Go.RowKit

end Go.Proofs.YtnoflgkjdibblaaGreatDoor.S19

/-
  The statements' first question of layer 19, over the contracts. No statement is proved here.
-/
namespace Go.Proofs.YtnoflgkjdibblaaGreatDoor.S19
set_option linter.unusedSimpArgs false
set_option linter.unusedVariables false
set_option maxRecDepth 4096
open Go.RowKit

theorem DC.grow (M : DC) {N : Nat} {w w' : World} {g : Nat} {D : Dk} {F : Nat → Prop} (h : M.Is N w g D F) (hb : Below w.heap.size w w') : M.Is N w' g D F :=
  M.keep h hb.size fun b _ hlt => hb.block b hlt
end Go.Proofs.YtnoflgkjdibblaaGreatDoor.S19

/-
  append at a step of a region that draws its order. No statement is proved here.
-/
namespace Go.Proofs.YtnoflgkjdibblaaGreatDoor
set_option linter.unusedSimpArgs false
set_option linter.unusedVariables false
set_option maxRecDepth 1024
open Go.RowKit

theorem news_rd {w : World} {ad : Addr} {m c : Nat} {ys : List UInt8} (hr : Rd w (some ad) m c ys) : ∀ j u, (bv ys)[j]? = some u → w.cell? (ad.add j) = some u := by
  intro j u hj
  have hl := hr.len
  have hjl : j < ys.length := by
    rcases Nat.lt_or_ge j ys.length with h | h
    · exact h
    · rw [List.getElem?_eq_none (by simpa [bv_length] using h)] at hj; cases hj
  obtain ⟨b, off, e, _, hc⟩ := hr.at_ (by omega)
  injection e with e
  subst e
  have hp : (⟨b, off, none⟩ : Addr).add j = ⟨b, off + j, none⟩ := by unfold Addr.add; split <;> simp_all
  rw [bv_at ys j hjl] at hj
  rw [hp, hc j (by omega), ← hj]
  simp [List.getD, hjl]

/-- append at a step of a region that draws its order; where the new row lies. -/
theorem step_append_rd {w : World} {ops : Array Oper} {o : Oper} {a : Act} {K : Act → World → Prop} {Q : Exit → Act → World → Prop} {E : Prop} (hw : Region.wanted o (yielded ops a.tmps) = true) (s x : Operand)
    (ho : o.op = .call { callee := .builtin .append, args := #[s, x], argTypes := #[23, 23] })
    (base : Nat) (v : Value) (n : Nat) (xs : List UInt8) (hs : a.eval s = v) (hown : w.ownsRow base 5 1 v n (bv xs))
    (A : Option Addr) (m c : Nat) (ys : List UInt8) (hx : a.eval x = .slice A m c) (hr : Rd w A m c ys) (hb : n + m ≤ 140737488355328) (hbase : base ≤ w.heap.size)
    (h : ∀ v' w', w'.ownsRow base 5 1 v' (n + m) (bv (xs ++ ys)) → w.grownBy w' v.ownBlock → (v'.ownBlock = v.ownBlock ∨ v'.ownBlock = some w.heap.size) → K (a.put o.dst v') w') :
    if Region.wanted o (yielded ops a.tmps) = true then Oper.wp Tryz.prog o a w K Q else E := by
  obtain ⟨i0, hi, hz0, hz1, hz2⟩ := info_parts Tryz.infoU8
  rw [if_pos hw]
  rcases A with _ | ad
  · have hc := hr.nil rfl
    have hm : m = 0 := by have := hr.cap; omega
    subst hc hm
    obtain rfl : ys = [] := List.eq_nil_of_length_eq_zero hr.len
    have hrun := run_append_owned_none (P := Tryz.prog) (w := w) base 23 o.type 5 i0 1 Tryz.underlying23 hi v n (bv xs) hown
    unfold Oper.wp
    simp [execOp, ho, resolve, invoke, builtin, hs, hx, hrun, Result.andThen]
    exact h v w (by simpa using hown) (World.grownBy.refl _ _) (.inl rfl)
  · obtain ⟨v', w', hrun, h2, h3, _, h5⟩ := run_append_own_at (P := Tryz.prog) w base 23 o.type 5 i0 (.int .u8 0) 1 1 Tryz.underlying23 hi hz0 hz1 hz2 rfl (by omega) v n (bv xs) hown ad m c (bv ys)
      (by simp [bv_length, hr.len]) (news_rd hr) (bv_one _) (by simp only [maxLen]; omega) (by omega) hbase
    unfold Oper.wp
    simp [execOp, ho, resolve, invoke, builtin, hs, hx, hrun, Result.andThen]
    exact h v' w' (by rw [bv_append]; exact h2) h3 h5

end Go.Proofs.YtnoflgkjdibblaaGreatDoor

/-
  Words for calls that stand in a row. Plain lemmas, no statement is proved here.
-/
namespace Go.Proofs.YtnoflgkjdibblaaGreatDoor
set_option linter.unusedSimpArgs false
set_option linter.unusedVariables false
set_option maxRecDepth 1024
open Go.RowKit

theorem new_len {B : Nat} {w w' : World} {xs : List UInt8} {e : Ending} (h : New B w xs e w') : ∃ (A : Option Addr) (c : Nat), e = .returned (.slice A xs.length c) ∧ Rd w' A xs.length c xs ∧ Below B w w' := by
  obtain ⟨A, n, c, he, ho, hb⟩ := h
  have hl := own_len ho
  subst hl
  exact ⟨A, c, he, Rd.own ho, hb⟩
theorem rd_markAt (w : World) (vs : Array Value) (xs : List UInt8) (fr : Nat × Nat) (b : Nat) (hb : w.heap.size = b) (h : vs.toList = bv xs) (hm : xs.length ≤ maxLen) : Rd (w.alloc (.cells vs 5 fr)) (some ⟨b, 0, none⟩) xs.length xs.length xs := by
  subst hb
  obtain ⟨vs⟩ := vs
  simp only at h
  subst h
  refine ⟨rfl, Nat.le_refl _, hm, (fun e => by cases e), fun hn => ⟨w.heap.size, 0, rfl, by simp, fun j hj => ?_⟩⟩
  rw [cell_of_row _ _ _ _ _ fr (heap_alloc_new w _), Nat.zero_add]
  exact bv_getElem? _ _ hj
theorem rd_mark (w : World) (vs : Array Value) (xs : List UInt8) (fr : Nat × Nat) (h : vs.toList = bv xs) (hm : xs.length ≤ maxLen) : Rd (w.alloc (.cells vs 5 fr)) (some ⟨w.heap.size, 0, none⟩) xs.length xs.length xs := rd_markAt w vs xs fr _ rfl h hm
theorem own_below {w w' : World} {B e size n : Nat} {v : Value} {xs : List Value} (h : w.ownsRow B e size v n xs) (hb : Below w.heap.size w w') : w'.ownsRow B e size v n xs := by
  refine ⟨h.1, ?_⟩
  rcases h.2 with h | ⟨g, cap, cur, h1, h2, h3, h4⟩
  · exact .inl h
  · exact .inr ⟨g, cap, cur, h1, h2, (hb.block g (Array.getElem?_eq_some_iff.1 h3).1).trans h3, h4⟩
theorem own_base {w : World} {B B' e size n : Nat} {v : Value} {xs : List Value} (h : w.ownsRow B e size v n xs) (hB : B' ≤ B) : w.ownsRow B' e size v n xs := by
  refine ⟨h.1, ?_⟩
  rcases h.2 with h | ⟨g, cap, cur, h1, h2, h3⟩
  · exact .inl h
  · exact .inr ⟨g, cap, cur, h1, Nat.le_trans hB h2, h3⟩
theorem own_n {w : World} {B e n : Nat} {v : Value} {xs : List UInt8} (h : w.ownsRow B e 1 v (0 + n) (bv ([] ++ xs))) : w.ownsRow B e 1 v n (bv xs) := by simpa using h
theorem run_cutSl {A : Option Addr} {n c k : Nat} {l : Int} (hl : l = k) (hk : k ≤ n) (W : World) :
    (Instr.slice 23 (.slice A n c) (some (.int .i64 l)) none none).run Tryz.prog W = .ok (.slice (if c = k then A else A.map (·.add k)) (n - k) (c - k)) W := by
  have ee : Tryz.prog.elem 23 = 5 := by kernel_rfl
  have hs : (sizeOf 5).run Tryz.prog W = .ok 1 W := by kernel_rfl
  subst hl
  rw [run_slice_l W 23 A n c (by rw [ee]; exact Tryz.underlying23) .i64 k (by omega) (by omega), ee, hs]
  simp [Result.andThen, sliced]
theorem run_cutSlAt {A : Option Addr} {n c k : Nat} {l : Int} (hl : l = k) (hk : k ≤ n) (W : World) :
    (Instr.sliceAt 23 (.slice A n c) (some (.int .i64 l)) none none).run Tryz.prog W = .ok (.slice (if c = k then A else A.map (·.add k)) (n - k) (c - k)) W := by
  have ee : Tryz.prog.elem 23 = 5 := by kernel_rfl
  rw [run_sliceAt_slice W 23 _ _ _ _ (by rw [ee]; exact Tryz.underlying23)]
  exact run_cutSl hl hk W
theorem run_cutSlLH {A : Option Addr} {n c l' m : Nat} {l h : Int} (hl : l = l') (hh : h = l' + m) (hk : l' + m ≤ c) (W : World) :
    (Instr.slice 23 (.slice A n c) (some (.int .i64 l)) (some (.int .i64 h)) none).run Tryz.prog W = .ok (.slice (if c = l' then A else A.map (·.add l')) m (c - l')) W := by
  have ee : Tryz.prog.elem 23 = 5 := by kernel_rfl
  have hs : (sizeOf 5).run Tryz.prog W = .ok 1 W := by kernel_rfl
  have e1 : h.toNat - l' = m := by omega
  have e2 : l.toNat = l' := by omega
  rw [run_slice_lh W 23 A n c (by rw [ee]; exact Tryz.underlying23) .i64 .i64 l h (by omega) (by omega) (by omega), ee, hs]
  simp only [Result.andThen, sliced, Nat.mul_one, e2, e1]
theorem run_cutSlLHAt {A : Option Addr} {n c l' m : Nat} {l h : Int} (hl : l = l') (hh : h = l' + m) (hk : l' + m ≤ c) (W : World) :
    (Instr.sliceAt 23 (.slice A n c) (some (.int .i64 l)) (some (.int .i64 h)) none).run Tryz.prog W = .ok (.slice (if c = l' then A else A.map (·.add l')) m (c - l')) W := by
  have ee : Tryz.prog.elem 23 = 5 := by kernel_rfl
  rw [run_sliceAt_slice W 23 _ _ _ _ (by rw [ee]; exact Tryz.underlying23)]
  exact run_cutSlLH hl hh hk W
theorem run_cutSlH {A : Option Addr} {n c m : Nat} {h : Int} (hh : h = (m : Nat)) (hk : m ≤ c) (W : World) :
    (Instr.slice 23 (.slice A n c) none (some (.int .i64 h)) none).run Tryz.prog W = .ok (.slice A m c) W := by
  have ee : Tryz.prog.elem 23 = 5 := by kernel_rfl
  have hs : (sizeOf 5).run Tryz.prog W = .ok 1 W := by kernel_rfl
  subst hh
  rw [run_slice_h W 23 A n c (by rw [ee]; exact Tryz.underlying23) .i64 (m : Int) (by omega) (by omega), ee, hs]
  simp only [Result.andThen, sliced, Nat.mul_one, Int.toNat_natCast, Nat.sub_zero]
  have : A.map (·.add 0) = A := by cases A <;> simp [Addr.add]
  rw [this]
  split <;> rfl
theorem run_cutSlHAt {A : Option Addr} {n c m : Nat} {h : Int} (hh : h = (m : Nat)) (hk : m ≤ c) (W : World) :
    (Instr.sliceAt 23 (.slice A n c) none (some (.int .i64 h)) none).run Tryz.prog W = .ok (.slice A m c) W := by
  have ee : Tryz.prog.elem 23 = 5 := by kernel_rfl
  rw [run_sliceAt_slice W 23 _ _ _ _ (by rw [ee]; exact Tryz.underlying23)]
  exact run_cutSlH hh hk W
end Go.Proofs.YtnoflgkjdibblaaGreatDoor

/-
  Rows of whole numbers, and append to such a row at a step. No statement is proved here.
-/
namespace Go.Proofs.YtnoflgkjdibblaaGreatDoor.S19
set_option linter.unusedSimpArgs false
set_option linter.unusedVariables false
set_option maxRecDepth 4096
open Go.RowKit

theorem Tryz.infoZ : (Tryz.prog.info? 3).map (fun i => (i.zero, i.size, i.bytes)) = some (some (.int .i64 0), 1, 8) := by kernel_rfl
def zv (xs : List Int) : List Value := xs.map fun b => Value.int .i64 b
theorem zv_length (xs : List Int) : (zv xs).length = xs.length := by simp [zv]
theorem zv_append (xs ys : List Int) : zv (xs ++ ys) = zv xs ++ zv ys := by simp [zv]
theorem zv_at (xs : List Int) (i : Nat) (h : i < xs.length) : (zv xs)[i]? = some (.int .i64 xs[i]) := by simp [zv, h]
theorem zv_one (xs : List Int) : ∀ u ∈ zv xs, u.oneCell' = true := by
  intro u hu
  simp only [zv, List.mem_map] at hu
  obtain ⟨b, _, rfl⟩ := hu
  rfl
theorem RI.own {w : World} {B e n : Nat} {A : Option Addr} {c : Nat} {xs : List Int} (h : w.ownsRow B e 1 (.slice A n c) n (zv xs)) : RI w .i64 A n c xs := by
  have hl : xs.length = n := by have := h.1; simp [zv_length] at this; exact this
  rcases h.2 with ⟨hv, hn⟩ | ⟨g, cap, cur, hv, _, hh, hnc, hcm, _, htake⟩
  · injection hv with h1 h2 h3
    subst h1 h2 h3
    have : xs = [] := List.eq_nil_of_length_eq_zero hl
    subst this
    exact RI.nil_ w _
  · injection hv with h1 h2 h3
    subst h1 h3
    refine ⟨hl, hnc, hcm, (fun h => by cases h), fun hn => ⟨g, 0, rfl, (Array.getElem?_eq_some_iff.1 hh).1, fun j hj => ?_⟩⟩
    have := h.cellAt j (by omega)
    rw [Nat.zero_add, this, zv_at xs j (by omega)]
    simp [List.getD, hl ▸ hj]
theorem news_zi {w : World} {ad : Addr} {m c : Nat} {ys : List Int} (hr : RI w .i64 (some ad) m c ys) : ∀ j u, (zv ys)[j]? = some u → w.cell? (ad.add j) = some u := by
  intro j u hj
  have hl := hr.len
  have hjl : j < ys.length := by
    rcases Nat.lt_or_ge j ys.length with h | h
    · exact h
    · rw [List.getElem?_eq_none (by simpa [zv_length] using h)] at hj; cases hj
  obtain ⟨b, off, e, _, hc⟩ := hr.at_ (by omega)
  injection e with e
  subst e
  have hp : (⟨b, off, none⟩ : Addr).add j = ⟨b, off + j, none⟩ := by unfold Addr.add; split <;> simp_all
  rw [zv_at ys j hjl] at hj
  rw [hp, hc j (by omega), ← hj]
  simp [List.getD, hjl]
/-- append to a row of whole numbers, at a step. -/
theorem step_append_zi {w : World} {ops : Array Oper} {o : Oper} {a : Act} {K : Act → World → Prop} {Q : Exit → Act → World → Prop} {E : Prop} (hw : Region.wanted o (yielded ops a.tmps) = true) (s x : Operand)
    (ho : o.op = .call { callee := .builtin .append, args := #[s, x], argTypes := #[49, 49] })
    (base : Nat) (v : Value) (n : Nat) (xs : List Int) (hs : a.eval s = v) (hown : w.ownsRow base 3 1 v n (zv xs))
    (ad : Addr) (m c : Nat) (ys : List Int) (hx : a.eval x = .slice (some ad) m c) (hr : RI w .i64 (some ad) m c ys) (hb : n + m ≤ 2000000000000) (hbase : base ≤ w.heap.size)
    (h : ∀ v' w', w'.ownsRow base 3 1 v' (n + m) (zv (xs ++ ys)) → w.grownBy w' v.ownBlock → (v'.ownBlock = v.ownBlock ∨ v'.ownBlock = some w.heap.size) → K (a.put o.dst v') w') :
    if Region.wanted o (yielded ops a.tmps) = true then Oper.wp Tryz.prog o a w K Q else E := by
  obtain ⟨i0, hi, hz0, hz1, hz2⟩ := info_parts Tryz.infoZ
  rw [if_pos hw]
  obtain ⟨v', w', hrun, h2, h3, _, h5⟩ := run_append_own_at (P := Tryz.prog) w base 49 o.type 3 i0 (.int .i64 0) 1 8 Tryz.underlying49 hi hz0 hz1 hz2 rfl (by omega) v n (zv xs) hown ad m c (zv ys)
      (by simp [zv_length, hr.len]) (news_zi hr) (zv_one _) (by simp only [maxLen]; omega) (by omega) hbase
  unfold Oper.wp
  simp [execOp, ho, resolve, invoke, builtin, hs, hx, hrun, Result.andThen]
  exact h v' w' (by rw [zv_append]; exact h2) h3 h5
theorem ri_lit (w : World) (z : Int) (b : Nat) (hb : w.heap.size = b) : RI (w.alloc (.cells #[.int .i64 z] 3)) .i64 (some ⟨b, 0, none⟩) 1 1 [z] := by
  subst hb
  have := World.ownsRow_lit (base := 0) (e := 3) (size := 1) w (zv [z]).toArray 1 (Nat.zero_le _) (by simp [maxLen]) (by simp [zv])
  rw [show (zv [z]).toArray = #[Value.int .i64 z] from rfl] at this
  exact RI.own (B := 0) (e := 3) (by simpa [zv] using this)
theorem RI.cell {w : World} {k : IntKind} {A : Option Addr} {n c : Nat} {xs : List Int} (h : RI w k A n c xs) {i : Nat} (hi : i < n) : ∃ b off, A = some ⟨b, off, none⟩ ∧ b < w.heap.size ∧ w.cell? ⟨b, off + i, none⟩ = some (.int k (xs.getD i 0)) := by
  obtain ⟨b, off, rfl, hb, hc⟩ := h.at_ (by omega)
  exact ⟨b, off, rfl, hb, hc i hi⟩
end Go.Proofs.YtnoflgkjdibblaaGreatDoor.S19

/-
  What a statement holds of a disk: what is calm, and what was written last. No statement is proved here.
-/
namespace Go.Proofs.YtnoflgkjdibblaaGreatDoor.S19
set_option linter.unusedSimpArgs false
set_option linter.unusedVariables false
set_option maxRecDepth 4096
open Go.RowKit

/-- A row of rows that a statement holds; it lies apart from F. -/
structure Ws (w : World) (N : Nat) (F : Nat → Prop) (b k : Nat) (f : Nat → List UInt8) : Prop where
  lo : N ≤ b
  own : ¬ F b
  ex : ∃ vs : Array Value, Bk w b 23 vs ∧ vs.size = k ∧ ∀ j, j < k → ∃ A n c, vs[j]? = some (.slice A n c) ∧ Rd w A n c (f j) ∧ ∀ a, 0 < n → A = some a → ¬ F a.block
/-- A row of bytes does not lie where slices lie. -/
theorem rd_ne {w : World} {A : Option Addr} {n c b : Nat} {xs : List UInt8} {T : TypeId} {vs : Array Value} (h : Rd w A n c xs) (hb : Bk w b T vs) (hv : ∀ (j : Nat) v, vs[j]? = some v → ∃ A n c, v = .slice A n c) : ∀ a, 0 < n → A = some a → a.block ≠ b := by
  rintro a hn rfl rfl
  obtain ⟨b', off, e, _, hc⟩ := h.at_ hn
  injection e with e
  subst e
  have h0 := hc 0 hn
  rw [hb.cell] at h0
  obtain ⟨A, n, c, e⟩ := hv _ _ h0
  cases e
theorem rd_farB {w : World} {A : Option Addr} {n c b : Nat} {xs : List UInt8} (h : Rd w A n c xs) (hb : ∀ a, 0 < n → A = some a → a.block ≠ b) (i : Nat) (u : Value) : Rd (w.setCell ⟨b, i, none⟩ u) A n c xs := by
  refine ⟨h.len, h.cap, h.max, h.nil, fun hn => ?_⟩
  obtain ⟨b', off, rfl, hl, hc⟩ := h.at_ hn
  exact ⟨b', off, rfl, by simpa using hl, fun j hj => (World.cell?_of_block (a := ⟨b', off + j, none⟩) (Below.heap_setCell w ⟨b, i, none⟩ u b' (hb _ hn rfl))).trans (hc j hj)⟩
section
variable {w w' : World} {N : Nat} {F F' : Nat → Prop} {b b' k k' : Nat} {f f' : Nat → List UInt8}
theorem Ws.slices (h : Ws w N F b k f) : ∃ vs : Array Value, Bk w b 23 vs ∧ vs.size = k ∧ ∀ (j : Nat) v, vs[j]? = some v → ∃ A n c, v = .slice A n c := by
  obtain ⟨vs, h1, h2, h3⟩ := h.ex
  refine ⟨vs, h1, h2, fun j v hv => ?_⟩
  have hj : j < k := by rw [← h2]; exact (Array.getElem?_eq_some_iff.1 hv).1
  obtain ⟨A, n, c, h4, _⟩ := h3 j hj
  rw [hv] at h4
  exact ⟨A, n, c, Option.some.inj h4⟩
theorem Ws.lt (h : Ws w N F b k f) : b < w.heap.size := by
  obtain ⟨vs, h1, _⟩ := h.ex
  exact h1.lt
theorem Ws.at_ (h : Ws w N F b k f) {j : Nat} (hj : j < k) : ∃ A n c, w.cell? ⟨b, j, none⟩ = some (.slice A n c) ∧ Rd w A n c (f j) ∧ ∀ a, 0 < n → A = some a → ¬ F a.block := by
  obtain ⟨vs, h1, _, h3⟩ := h.ex
  obtain ⟨A, n, c, h4, h5, h6⟩ := h3 j hj
  exact ⟨A, n, c, (h1.cell j).trans h4, h5, h6⟩
theorem Ws.frozen (h : Ws w N F b k f) (j : Nat) : w.frozen? ⟨b, j, none⟩ = false := by
  obtain ⟨vs, h1, _⟩ := h.ex
  exact h1.frozen j
theorem Ws.mv (h : Ws w N F b k f) (m : Mv N F w w') (hF : ∀ x, F' x → F x ∨ w.heap.size ≤ x) : Ws w' N F' b k f := by
  obtain ⟨vs, h1, h2, h3⟩ := h.ex
  refine ⟨h.lo, fun e => ?_, vs, m.bk h1 h.own, h2, fun j hj => ?_⟩
  · rcases hF _ e with e | e
    · exact h.own e
    · have := h1.lt; omega
  · obtain ⟨A, n, c, h4, h5, h6⟩ := h3 j hj
    refine ⟨A, n, c, h4, m.rd h5 h6, fun a hn ha e => ?_⟩
    rcases hF _ e with e | e
    · exact h6 a hn ha e
    · obtain ⟨b', off, e', hb', _⟩ := h5.at_ hn
      rw [ha] at e'
      injection e' with e'
      subst e'
      simp at e
      omega
theorem Ws.grow (h : Ws w N F b k f) (hb : Below w.heap.size w w') (hF : ∀ x, F x → x < w.heap.size) : Ws w' N F b k f := by
  obtain ⟨vs, h1, h2, h3⟩ := h.ex
  refine ⟨h.lo, h.own, vs, h1.below hb h1.lt, h2, fun j hj => ?_⟩
  obtain ⟨A, n, c, h4, h5, h6⟩ := h3 j hj
  exact ⟨A, n, c, h4, h5.below hb, h6⟩
theorem Ws.ext (h : Ws w N F b k f) (hf : ∀ j, j < k → f' j = f j) : Ws w N F b k f' := by
  obtain ⟨vs, h1, h2, h3⟩ := h.ex
  refine ⟨h.lo, h.own, vs, h1, h2, fun j hj => ?_⟩
  obtain ⟨A, n, c, h4, h5, h6⟩ := h3 j hj
  exact ⟨A, n, c, h4, by rw [hf j hj]; exact h5, h6⟩
def upd (f : Nat → List UInt8) (i : Nat) (xs : List UInt8) : Nat → List UInt8 := fun j => if j = i then xs else f j
theorem Ws.set (h : Ws w N F b k f) {i : Nat} (hi : i < k) {A : Option Addr} {n c : Nat} {xs : List UInt8} (hr : Rd w A n c xs) (hF : ∀ a, 0 < n → A = some a → ¬ F a.block) : Ws (w.setCell ⟨b, i, none⟩ (.slice A n c)) N F b k (upd f i xs) := by
  obtain ⟨vs, h1, h2, h7⟩ := h.slices
  obtain ⟨vs', h1', _, h3⟩ := h.ex
  have e : vs' = vs := by
    have := h1'.symm.trans h1
    injection this with this
    injection this
  subst e
  refine ⟨h.lo, h.own, _, h1.put i _, by simpa using h2, fun j hj => ?_⟩
  by_cases hji : j = i
  · subst hji
    refine ⟨A, n, c, by simp [h2, hj], ?_, hF⟩
    simp only [upd, if_pos]
    exact rd_farB hr (rd_ne hr h1 h7) _ _
  · obtain ⟨A', n', c', h4, h5, h6⟩ := h3 j hj
    refine ⟨A', n', c', by rw [Array.getElem?_setIfInBounds_ne (Ne.symm hji)]; exact h4, ?_, h6⟩
    simp only [upd, if_neg hji]
    exact rd_farB h5 (rd_ne h5 h1 h7) _ _
theorem Ws.new {B : Nat} (ho : w.ownsRow B 23 1 (.slice (some ⟨b, 0, none⟩) k k) k (List.replicate k (.slice none 0 0))) (lo : N ≤ b) (own : ¬ F b) : Ws w N F b k (fun _ => []) := by
  rcases ho.2 with ⟨h1, _⟩ | ⟨g, cap, cur, h1, _, hh, hnc, hcm, hs, ht⟩
  · cases h1
  · injection h1 with h1 h2 h3
    injection h1 with h1
    injection h1 with h1
    subst h1 h3
    rw [Nat.mul_one] at hs ht
    rw [List.take_of_length_le (by rw [Array.length_toList, hs]; exact Nat.le_refl _)] at ht
    refine ⟨lo, own, cur, hh, hs, fun j hj => ⟨none, 0, 0, ?_, Rd.nil_ _, fun a hn => by omega⟩⟩
    have : cur.toList[j]? = some (.slice none 0 0) := by rw [ht]; simp [hj]
    simpa using this
end
/-- What a statement knows of a disk. -/
structure Sd (k : Nat) (D : Dk) (cf lf : Nat → List UInt8) : Prop where
  ok : D.Ok
  len : D.sure.length = k
  last : ∀ j, j < k → lf j = D.atS j
  calm : ∀ j, j < k → cf j = [] ∨ (cf j = D.sure.getD j [] ∧ ∀ p ∈ D.pend, p.1 ≠ j)
theorem Sd.start {k : Nat} (h1 : 1 ≤ k) (h2 : k ≤ 256) : Sd k (Dk.new k) (fun _ => List.replicate 64 0) (fun _ => List.replicate 64 0) := by
  refine ⟨Dk.new_ok h1 h2, by simp [Dk.new], fun j hj => ?_, fun j hj => .inr ⟨?_, fun p hp => by simp [Dk.new] at hp⟩⟩
  · simp [Dk.atS, Dk.new, Dk.lastOf, List.getD, hj]
  · simp [Dk.new, List.getD, hj]
section
variable {k : Nat} {D : Dk} {cf lf : Nat → List UInt8}
theorem Sd.step (h : Sd k D cf lf) : Sd k D.step cf lf := by
  refine ⟨Dk.step_ok h.ok, by rw [Dk.step_sure]; exact h.len, fun j hj => ?_, fun j hj => ?_⟩
  · rw [h.last j hj, Dk.atS, Dk.atS, Dk.step_sure, Dk.step_pend]
  · rw [Dk.step_sure, Dk.step_pend]; exact h.calm j hj
theorem Sd.halt (h : Sd k D cf lf) : Sd k D.halt cf lf := ⟨Dk.halt_ok h.ok, h.len, h.last, h.calm⟩
theorem Sd.plan (h : Sd k D cf lf) (fs : List Int) (st : Int) : Sd k (D.plan fs st) cf lf := ⟨Dk.plan_ok h.ok _ _, h.len, h.last, h.calm⟩
theorem Sd.up (h : Sd k D cf lf) (ch : List UInt8) (fs : List Int) (st : Int) : Sd k (D.up ch fs st) (fun j => (D.up ch fs st).sure.getD j []) (fun j => (D.up ch fs st).sure.getD j []) ∧ (D.up ch fs st).sure.length = k ∧ ∀ j, j < k → cf j = [] ∨ (D.up ch fs st).sure.getD j [] = cf j := by
  have hl : (D.up ch fs st).sure.length = k := by show (Dk.tear _ _ _ _).length = k; rw [Dk.tear_len]; exact h.len
  refine ⟨⟨Dk.up_ok h.ok _ _ _, hl, fun j hj => rfl, fun j hj => .inr ⟨rfl, fun p hp => by cases hp⟩⟩, hl, fun j hj => ?_⟩
  rcases h.calm j hj with h1 | ⟨h1, h2⟩
  · exact .inl h1
  · refine .inr ?_
    rw [h1]
    exact Dk.tear_at ch _ _ _ h2
theorem Sd.rows (h : Sd k D cf lf) {j : Nat} (hj : j < k) : (lf j).length = 64 ∧ (D.sure.getD j []).length = 64 :=
  ⟨by rw [h.last j hj]; exact Dk.atS_len h.ok (by rw [h.len]; exact hj), h.ok.rows _ (by rw [List.getD_eq_getElem?_getD, List.getElem?_eq_getElem (by rw [h.len]; exact hj)]; simp)⟩
end
end Go.Proofs.YtnoflgkjdibblaaGreatDoor.S19

/-
  The document's own disk in memory: where it lies, and what abides where its block is written. No statement is proved here.
-/
namespace Go.Proofs.YtnoflgkjdibblaaGreatDoor.S19
set_option linter.unusedSimpArgs false
set_option linter.unusedVariables false
set_option maxRecDepth 4096
open Go.RowKit

/-- The values that lie in the document's own disk. -/
structure RkV where
  vS : Value
  ss : List Value
  vW : Value
  vB : Value
  bs : List Value
  AF : Option Addr
  nF : Nat
  cF : Nat
def spine (h : Nat) (V : RkV) (b : Nat) : Prop := b = h ∨ V.vS.ownBlock = some b ∨ V.vW.ownBlock = some b ∨ V.vB.ownBlock = some b
def pendZ (p : List (Nat × List UInt8)) : List Int := p.map fun x => (x.1 : Int)
def pendR (p : List (Nat × List UInt8)) : List (List UInt8) := p.map fun x => x.2
theorem pendZ_len (p : List (Nat × List UInt8)) : (pendZ p).length = p.length := by simp [pendZ]
theorem pendR_len (p : List (Nat × List UInt8)) : (pendR p).length = p.length := by simp [pendR]
theorem pendR_at (p : List (Nat × List UInt8)) (i : Nat) : (pendR p).getD i [] = (p.getD i (0, [])).2 := by
  simp only [pendR, List.getD_eq_getElem?_getD, List.getElem?_map]
  cases p[i]? <;> rfl
/-- A row that reads so, in the blocks of G, but not where the disk itself is written. -/
def Rr (w : World) (G : Nat → Prop) (h : Nat) (V : RkV) (u : Option Value) (xs : List UInt8) : Prop := ∃ A n c, u = some (.slice A n c) ∧ Rd w A n c xs ∧ ∀ a, 0 < n → A = some a → G a.block ∧ ¬ spine h V a.block
/-- All but the block of the disk itself. -/
structure Rest (N : Nat) (w : World) (h : Nat) (sure : List (List UInt8)) (zs : List Int) (rs : List (List UInt8)) (fails : List Int) (G : Nat → Prop) (V : RkV) : Prop where
  oS : w.ownsRow N 23 1 V.vS sure.length V.ss
  rS : ∀ i, i < sure.length → Rr w G h V V.ss[i]? (sure.getD i [])
  oW : w.ownsRow N 3 1 V.vW zs.length (zv zs)
  oB : w.ownsRow N 23 1 V.vB rs.length V.bs
  rB : ∀ i, i < rs.length → Rr w G h V V.bs[i]? (rs.getD i [])
  rF : RI w .i64 V.AF V.nF V.cF fails
  inF : ∀ a, 0 < V.nF → V.AF = some a → (a.block < N ∨ G a.block) ∧ ¬ spine h V a.block
  inG : ∀ b, spine h V b → G b
  gN : ∀ b, G b → N ≤ b ∧ b < w.heap.size
  dS : ∀ b, V.vS.ownBlock = some b → b ≠ h ∧ V.vW.ownBlock ≠ some b ∧ V.vB.ownBlock ≠ some b
  dW : ∀ b, V.vW.ownBlock = some b → b ≠ h ∧ V.vS.ownBlock ≠ some b ∧ V.vB.ownBlock ≠ some b
  dB : ∀ b, V.vB.ownBlock = some b → b ≠ h ∧ V.vS.ownBlock ≠ some b ∧ V.vW.ownBlock ≠ some b
/-- The document's own disk. -/
structure Rk (N : Nat) (w : World) (h : Nat) (L : Value) (D : Dk) (G : Nat → Prop) : Prop where
  ok : D.Ok
  ex : ∃ V, Bk w h 62 #[L, V.vS, V.vW, V.vB, .slice V.AF V.nF V.cF, .int .i64 D.stop, .int .i64 (D.cnt : Int), .bool D.off] ∧ Rest N w h D.sure (pendZ D.pend) (pendR D.pend) D.fails G V
section
variable {N : Nat} {w w' : World} {h : Nat} {G G' : Nat → Prop} {V : RkV} {sure : List (List UInt8)} {zs : List Int} {rs : List (List UInt8)} {fails : List Int}
theorem Rr.keep {u : Option Value} {xs : List UInt8} (r : Rr w G h V u xs) (hs : w.heap.size ≤ w'.heap.size) (hk : ∀ b, G b → ¬ spine h V b → b < w.heap.size → w'.heap[b]? = w.heap[b]?) : Rr w' G h V u xs := by
  obtain ⟨A, n, c, h1, h2, h3⟩ := r
  refine ⟨A, n, c, h1, ⟨h2.len, h2.cap, h2.max, h2.nil, fun hn => ?_⟩, h3⟩
  obtain ⟨b, off, rfl, hb, hc⟩ := h2.at_ hn
  obtain ⟨q1, q2⟩ := h3 _ hn rfl
  exact ⟨b, off, rfl, Nat.lt_of_lt_of_le hb hs, fun j hj => (World.cell?_of_block (a := ⟨b, off + j, none⟩) (hk b q1 q2 hb)).trans (hc j hj)⟩
theorem own_keepH {B e size n : Nat} {v : Value} {xs : List Value} (ho : w.ownsRow B e size v n xs) (hk : ∀ b, v.ownBlock = some b → b < w.heap.size → w'.heap[b]? = w.heap[b]?) : w'.ownsRow B e size v n xs := by
  refine ⟨ho.1, ?_⟩
  rcases ho.2 with h1 | ⟨g, cap, cur, h1, h2, h3, h4⟩
  · exact .inl h1
  · exact .inr ⟨g, cap, cur, h1, h2, (hk g (by rw [h1]; rfl) (Array.getElem?_eq_some_iff.1 h3).1).trans h3, h4⟩
/-- What abides where the disk's blocks, and those below N, are as they were. -/
theorem Rest.keep (r : Rest N w h sure zs rs fails G V) (hs : w.heap.size ≤ w'.heap.size) (hk : ∀ b, (b < N ∨ G b) → b < w.heap.size → w'.heap[b]? = w.heap[b]?) : Rest N w' h sure zs rs fails G V :=
  ⟨own_keepH r.oS fun b hb hlt => hk b (.inr (r.inG b (.inr (.inl hb)))) hlt,
    fun i hi => (r.rS i hi).keep hs fun b hb _ hlt => hk b (.inr hb) hlt,
    own_keepH r.oW fun b hb hlt => hk b (.inr (r.inG b (.inr (.inr (.inl hb))))) hlt,
    own_keepH r.oB fun b hb hlt => hk b (.inr (r.inG b (.inr (.inr (.inr hb))))) hlt,
    fun i hi => (r.rB i hi).keep hs fun b hb _ hlt => hk b (.inr hb) hlt,
    r.rF.keep hs fun a h1 h2 h3 => hk _ (r.inF a h1 h2).1 h3, r.inF, r.inG, fun b hb => ⟨(r.gN b hb).1, Nat.lt_of_lt_of_le (r.gN b hb).2 hs⟩, r.dS, r.dW, r.dB⟩
/-- The disk's own block is written. -/
theorem Rest.poke (r : Rest N w h sure zs rs fails G V) (i : Nat) (u : Value) : Rest N (w.setCell ⟨h, i, none⟩ u) h sure zs rs fails G V := by
  have hs : w.heap.size ≤ (w.setCell ⟨h, i, none⟩ u).heap.size := by simp
  have hk : ∀ b, b ≠ h → (w.setCell ⟨h, i, none⟩ u).heap[b]? = w.heap[b]? := fun b hb => Below.heap_setCell w ⟨h, i, none⟩ u b hb
  refine ⟨own_keepH r.oS fun b hb _ => hk b (r.dS b hb).1, fun j hj => (r.rS j hj).keep hs fun b _ hb _ => hk b fun e => hb (.inl e),
    own_keepH r.oW fun b hb _ => hk b (r.dW b hb).1, own_keepH r.oB fun b hb _ => hk b (r.dB b hb).1, fun j hj => (r.rB j hj).keep hs fun b _ hb _ => hk b fun e => hb (.inl e),
    r.rF.keep hs fun a h1 h2 _ => hk _ fun e => (r.inF a h1 h2).2 (.inl e), r.inF, r.inG, fun b hb => ⟨(r.gN b hb).1, Nat.lt_of_lt_of_le (r.gN b hb).2 hs⟩, r.dS, r.dW, r.dB⟩
theorem Rk.keep {L : Value} {D : Dk} (r : Rk N w h L D G) (hs : w.heap.size ≤ w'.heap.size) (hk : ∀ b, (b < N ∨ G b) → b < w.heap.size → w'.heap[b]? = w.heap[b]?) : Rk N w' h L D G := by
  obtain ⟨V, h1, h2⟩ := r.ex
  exact ⟨r.ok, V, (hk h (.inr (h2.inG h (.inl rfl))) h1.lt).trans h1, h2.keep hs hk⟩
theorem Rk.grow {L : Value} {D : Dk} (r : Rk N w h L D G) (hb : Below w.heap.size w w') : Rk N w' h L D G := r.keep hb.size fun b _ hlt => hb.block b hlt
theorem Rk.lt {L : Value} {D : Dk} (r : Rk N w h L D G) : ∀ b, G b → N ≤ b ∧ b < w.heap.size := by
  obtain ⟨V, h1, h2⟩ := r.ex
  exact h2.gN
theorem Mv.poke (hN : N ≤ h) (hG : G h) (w : World) (i : Nat) (u : Value) : Mv N G w (w.setCell ⟨h, i, none⟩ u) :=
  ⟨(Below.refl _ _).setCell (p := ⟨h, i, none⟩) hN u, fun b _ hb => Below.heap_setCell w ⟨h, i, none⟩ u b (by rintro rfl; exact hb hG)⟩
end
section
variable {N : Nat} {w wl w' : World} {h : Nat} {G : Nat → Prop} {V : RkV} {sure : List (List UInt8)} {zs : List Int} {rs : List (List UInt8)} {fails : List Int}
/-- A block that has come, or stayed. -/
abbrev plus (G : Nat → Prop) (v : Value) : Nat → Prop := fun b => G b ∨ v.ownBlock = some b
/-- What lies elsewhere abides where a row grows. -/
theorem grown_keep (hb : Below w.heap.size w wl) {row : Option Nat} (hg : wl.grownBy w' row) : ∀ b, b < w.heap.size → row ≠ some b → w'.heap[b]? = w.heap[b]? :=
  fun b h1 h2 => (hg.block b (Nat.lt_of_lt_of_le h1 hb.size) (Ne.symm h2)).trans (hb.block b h1)
/-- One number more. -/
theorem Rest.pushW (r : Rest N w h sure zs rs fails G V) (hb : Below w.heap.size w wl) {v' : Value} {z : Int} (ho : w'.ownsRow N 3 1 v' (zs ++ [z]).length (zv (zs ++ [z]))) (hg : wl.grownBy w' V.vW.ownBlock) (hv : v'.ownBlock = V.vW.ownBlock ∨ v'.ownBlock = some wl.heap.size) (hlt : ∀ b, v'.ownBlock = some b → b < w'.heap.size) :
    Rest N w' h sure (zs ++ [z]) rs fails (plus G v') { V with vW := v' } ∧ Mv N G w w' ∧ (∀ b, plus G v' b → G b ∨ w.heap.size ≤ b) := by
  have hsz : w.heap.size ≤ w'.heap.size := Nat.le_trans hb.size hg.size
  have hk := grown_keep hb hg
  have hG : ∀ b, V.vW.ownBlock = some b → G b := fun b e => r.inG b (.inr (.inr (.inl e)))
  have hnew : ∀ b, v'.ownBlock = some b → V.vW.ownBlock = some b ∨ w.heap.size ≤ b := fun b e => by
    rcases hv with hv | hv
    · exact .inl (hv ▸ e)
    · rw [hv] at e
      have := Option.some.inj e
      have := hb.size
      exact .inr (by omega)
  have hrow : ∀ u xs, Rr w G h V u xs → Rr w' (plus G v') h { V with vW := v' } u xs := by
    rintro u xs ⟨A, n, c, h1, h2, h3⟩
    refine ⟨A, n, c, h1, ⟨h2.len, h2.cap, h2.max, h2.nil, fun hn => ?_⟩, fun a hn ha => ?_⟩
    · obtain ⟨b, off, rfl, hlb, hc⟩ := h2.at_ hn
      obtain ⟨q1, q2⟩ := h3 _ hn rfl
      exact ⟨b, off, rfl, Nat.lt_of_lt_of_le hlb hsz, fun j hj => (World.cell?_of_block (a := ⟨b, off + j, none⟩) (hk b hlb fun e => q2 (.inr (.inr (.inl e))))).trans (hc j hj)⟩
    · obtain ⟨q1, q2⟩ := h3 a hn ha
      refine ⟨.inl q1, ?_⟩
      rintro (e | e | e | e)
      · exact q2 (.inl e)
      · exact q2 (.inr (.inl e))
      · rcases hnew _ e with e | e
        · exact q2 (.inr (.inr (.inl e)))
        · have := (r.gN _ q1).2; omega
      · exact q2 (.inr (.inr (.inr e)))
  refine ⟨⟨own_keepH r.oS fun b e hl => hk b hl (r.dS b e).2.1, fun i hi => hrow _ _ (r.rS i hi), ho, own_keepH r.oB fun b e hl => hk b hl (r.dB b e).2.2, fun i hi => hrow _ _ (r.rB i hi),
      r.rF.keep hsz fun a h1 h2 h3 => hk _ h3 fun e => (r.inF a h1 h2).2 (.inr (.inr (.inl e))), fun a h1 h2 => ⟨(r.inF a h1 h2).1.imp id .inl, ?_⟩, ?_, ?_, ?_, ?_, ?_⟩, ⟨?_, ?_⟩, ?_⟩
  · have hlA : a.block < w.heap.size := by
      obtain ⟨b, off, e, hbb, _⟩ := r.rF.at_ h1
      rw [h2] at e
      injection e with e
      subst e
      exact hbb
    rintro (e | e | e | e)
    · exact (r.inF a h1 h2).2 (.inl e)
    · exact (r.inF a h1 h2).2 (.inr (.inl e))
    · rcases hnew _ e with e | e
      · exact (r.inF a h1 h2).2 (.inr (.inr (.inl e)))
      · omega
    · exact (r.inF a h1 h2).2 (.inr (.inr (.inr e)))
  · rintro b (e | e | e | e)
    · exact .inl (r.inG b (.inl e))
    · exact .inl (r.inG b (.inr (.inl e)))
    · exact .inr e
    · exact .inl (r.inG b (.inr (.inr (.inr e))))
  · rintro b (e | e)
    · exact ⟨(r.gN b e).1, Nat.lt_of_lt_of_le (r.gN b e).2 hsz⟩
    · refine ⟨?_, hlt b e⟩
      rcases hnew b e with e | e
      · exact (r.gN b (hG b e)).1
      · have := (r.gN h (r.inG h (.inl rfl))); omega
  · intro b e
    refine ⟨(r.dS b e).1, fun e' => ?_, (r.dS b e).2.2⟩
    rcases hnew b e' with e' | e'
    · exact (r.dS b e).2.1 e'
    · have := (r.gN b (r.inG b (.inr (.inl e)))).2; omega
  · intro b e
    rcases hnew b e with e' | e'
    · exact r.dW b e'
    · refine ⟨fun q => ?_, fun q => ?_, fun q => ?_⟩
      · have := (r.gN h (r.inG h (.inl rfl))).2; omega
      · have := (r.gN b (r.inG b (.inr (.inl q)))).2; omega
      · have := (r.gN b (r.inG b (.inr (.inr (.inr q))))).2; omega
  · intro b e
    refine ⟨(r.dB b e).1, (r.dB b e).2.1, fun e' => ?_⟩
    rcases hnew b e' with e' | e'
    · exact (r.dB b e).2.2 e'
    · have := (r.gN b (r.inG b (.inr (.inr (.inr e))))).2; omega
  · have hN : N ≤ w.heap.size := by have := r.gN h (r.inG h (.inl rfl)); omega
    exact (hb.mono hN).grown hg (Nat.le_trans hN hb.size) fun b e => (r.gN b (hG b e)).1
  · exact fun b h1 h2 => hk b h1 fun e => h2 (hG b e)
  · rintro b (e | e)
    · exact .inl e
    · rcases hnew b e with e | e
      · exact .inl (hG b e)
      · exact .inr e
/-- One row more. -/
theorem Rest.pushB (r : Rest N w h sure zs rs fails G V) (hb : Below w.heap.size w wl) {v' u : Value} {xs : List UInt8} {A : Option Addr} {n c : Nat} (ho : w'.ownsRow N 23 1 v' (rs ++ [xs]).length (V.bs ++ [u])) (hg : wl.grownBy w' V.vB.ownBlock) (hv : v'.ownBlock = V.vB.ownBlock ∨ v'.ownBlock = some wl.heap.size) (hlt : ∀ b, v'.ownBlock = some b → b < w'.heap.size)
    (hu : u = .slice A n c) (hr : Rd wl A n c xs) (hA : ∀ a, 0 < n → A = some a → w.heap.size ≤ a.block) :
    Rest N w' h sure zs (rs ++ [xs]) fails (fun b => plus G v' b ∨ ∃ a, 0 < n ∧ A = some a ∧ a.block = b) { V with vB := v', bs := V.bs ++ [u] } ∧ Mv N G w w' ∧ (∀ b, (plus G v' b ∨ ∃ a, 0 < n ∧ A = some a ∧ a.block = b) → G b ∨ w.heap.size ≤ b) := by
  have hsz : w.heap.size ≤ w'.heap.size := Nat.le_trans hb.size hg.size
  have hk := grown_keep hb hg
  have hN : N ≤ w.heap.size := by have := r.gN h (r.inG h (.inl rfl)); omega
  have hG : ∀ b, V.vB.ownBlock = some b → G b := fun b e => r.inG b (.inr (.inr (.inr e)))
  have hnew : ∀ b, v'.ownBlock = some b → V.vB.ownBlock = some b ∨ b = wl.heap.size := fun b e => by
    rcases hv with hv | hv
    · exact .inl (hv ▸ e)
    · rw [hv] at e
      exact .inr (Option.some.inj e).symm
  have hbl : V.bs.length = rs.length := by have := r.oB.1; omega
  have hrow : ∀ u xs, Rr w G h V u xs → Rr w' (fun b => plus G v' b ∨ ∃ a, 0 < n ∧ A = some a ∧ a.block = b) h { V with vB := v', bs := V.bs ++ [.slice A n c] } u xs := by
    rintro u xs ⟨A, n, c, h1, h2, h3⟩
    refine ⟨A, n, c, h1, ⟨h2.len, h2.cap, h2.max, h2.nil, fun hn => ?_⟩, fun a hn ha => ?_⟩
    · obtain ⟨b, off, rfl, hlb, hc⟩ := h2.at_ hn
      obtain ⟨q1, q2⟩ := h3 _ hn rfl
      exact ⟨b, off, rfl, Nat.lt_of_lt_of_le hlb hsz, fun j hj => (World.cell?_of_block (a := ⟨b, off + j, none⟩) (hk b hlb fun e => q2 (.inr (.inr (.inr e))))).trans (hc j hj)⟩
    · obtain ⟨q1, q2⟩ := h3 a hn ha
      refine ⟨.inl (.inl q1), ?_⟩
      rintro (e | e | e | e)
      · exact q2 (.inl e)
      · exact q2 (.inr (.inl e))
      · exact q2 (.inr (.inr (.inl e)))
      · rcases hnew _ e with e | e
        · exact q2 (.inr (.inr (.inr e)))
        · have := (r.gN _ q1).2; have := hb.size; omega
  subst hu
  have hAl : ∀ a, 0 < n → A = some a → a.block < wl.heap.size := fun a h1 h2 => by
    obtain ⟨b, off, e, hbb, _⟩ := hr.at_ h1
    rw [h2] at e
    injection e with e
    subst e
    exact hbb
  have hAv : ∀ a, 0 < n → A = some a → v'.ownBlock ≠ some a.block := fun a h1 h2 e => by
    have q1 := hAl a h1 h2
    have q2 := hA a h1 h2
    rcases hnew _ e with e | e
    · have := (r.gN _ (hG _ e)).2; omega
    · omega
  refine ⟨⟨own_keepH r.oS fun b e hl => hk b hl (r.dS b e).2.2, fun i hi => hrow _ _ (r.rS i hi), own_keepH r.oW fun b e hl => hk b hl (r.dW b e).2.2, ho, fun i hi => ?_,
      r.rF.keep hsz fun a h1 h2 h3 => hk _ h3 fun e => (r.inF a h1 h2).2 (.inr (.inr (.inr e))), fun a h1 h2 => ⟨(r.inF a h1 h2).1.imp id fun q => .inl (.inl q), ?_⟩, ?_, ?_, ?_, ?_, ?_⟩, ⟨?_, ?_⟩, ?_⟩
  · by_cases hlt' : i < rs.length
    · have := hrow _ _ (r.rB i hlt')
      show Rr w' _ h _ (V.bs ++ [.slice A n c])[i]? ((rs ++ [xs]).getD i [])
      rw [List.getElem?_append_left (by omega), List.getD_eq_getElem?_getD, List.getElem?_append_left hlt', ← List.getD_eq_getElem?_getD]
      exact this
    · have hil : i = rs.length := by rw [List.length_append, List.length_singleton] at hi; omega
      subst hil
      show Rr w' _ h _ (V.bs ++ [.slice A n c])[rs.length]? ((rs ++ [xs]).getD rs.length [])
      rw [List.getElem?_append_right (by omega), hbl, Nat.sub_self, List.getD_eq_getElem?_getD, List.getElem?_append_right (Nat.le_refl _), Nat.sub_self]
      refine ⟨A, n, c, rfl, ⟨hr.len, hr.cap, hr.max, hr.nil, fun hn => ?_⟩, fun a h1 h2 => ⟨.inr ⟨a, h1, h2, rfl⟩, ?_⟩⟩
      · obtain ⟨b, off, e, hlb, hc⟩ := hr.at_ hn
        refine ⟨b, off, e, Nat.lt_of_lt_of_le hlb hg.size, fun j hj => (World.cell?_of_block (a := ⟨b, off + j, none⟩) (hg.block b hlb fun e' => ?_)).trans (hc j hj)⟩
        have q1 := hA _ hn e
        have q2 := (r.gN b (hG b e'.symm)).2
        have : (⟨b, off, none⟩ : Addr).block = b := rfl
        omega
      · have q1 := hA a h1 h2
        rintro (e | e | e | e)
        · have := (r.gN h (r.inG h (.inl rfl))).2; omega
        · have := (r.gN _ (r.inG _ (.inr (.inl e)))).2; omega
        · have := (r.gN _ (r.inG _ (.inr (.inr (.inl e))))).2; omega
        · exact hAv a h1 h2 e
  · have hlA : a.block < w.heap.size := by
      obtain ⟨b, off, e, hbb, _⟩ := r.rF.at_ h1
      rw [h2] at e
      injection e with e
      subst e
      exact hbb
    rintro (e | e | e | e)
    · exact (r.inF a h1 h2).2 (.inl e)
    · exact (r.inF a h1 h2).2 (.inr (.inl e))
    · exact (r.inF a h1 h2).2 (.inr (.inr (.inl e)))
    · rcases hnew _ e with e | e
      · exact (r.inF a h1 h2).2 (.inr (.inr (.inr e)))
      · have := hb.size; omega
  · rintro b (e | e | e | e)
    · exact .inl (.inl (r.inG b (.inl e)))
    · exact .inl (.inl (r.inG b (.inr (.inl e))))
    · exact .inl (.inl (r.inG b (.inr (.inr (.inl e)))))
    · exact .inl (.inr e)
  · rintro b ((e | e) | ⟨a, h1, h2, rfl⟩)
    · exact ⟨(r.gN b e).1, Nat.lt_of_lt_of_le (r.gN b e).2 hsz⟩
    · refine ⟨?_, hlt b e⟩
      rcases hnew b e with e | e
      · exact (r.gN b (hG b e)).1
      · have := hb.size; omega
    · exact ⟨Nat.le_trans hN (hA a h1 h2), Nat.lt_of_lt_of_le (hAl a h1 h2) hg.size⟩
  · intro b e
    refine ⟨(r.dS b e).1, (r.dS b e).2.1, fun e' => ?_⟩
    rcases hnew b e' with e' | e'
    · exact (r.dS b e).2.2 e'
    · have := (r.gN b (r.inG b (.inr (.inl e)))).2; have := hb.size; omega
  · intro b e
    refine ⟨(r.dW b e).1, (r.dW b e).2.1, fun e' => ?_⟩
    rcases hnew b e' with e' | e'
    · exact (r.dW b e).2.2 e'
    · have := (r.gN b (r.inG b (.inr (.inr (.inl e))))).2; have := hb.size; omega
  · intro b e
    rcases hnew b e with e' | e'
    · exact r.dB b e'
    · have := hb.size
      refine ⟨fun q => ?_, fun q => ?_, fun q => ?_⟩
      · have := (r.gN h (r.inG h (.inl rfl))).2; omega
      · have := (r.gN b (r.inG b (.inr (.inl q)))).2; omega
      · have := (r.gN b (r.inG b (.inr (.inr (.inl q))))).2; omega
  · exact (hb.mono hN).grown hg (Nat.le_trans hN hb.size) fun b e => (r.gN b (hG b e)).1
  · exact fun b h1 h2 => hk b h1 fun e => h2 (hG b e)
  · rintro b ((e | e) | ⟨a, h1, h2, rfl⟩)
    · exact .inl e
    · rcases hnew b e with e | e
      · exact .inl (hG b e)
      · have := hb.size; exact .inr (by omega)
    · exact .inr (hA a h1 h2)
end
/-- What a call on the document's own disk comes to. -/
def PostR (N : Nat) (G : Nat → Prop) (h : Nat) (L : Value) (w : World) (D' : Dk) (v : Value) (e : Ending) (w' : World) : Prop :=
  e = .returned v ∧ ∃ G', Rk N w' h L D' G' ∧ (∀ b, G' b → G b ∨ w.heap.size ≤ b) ∧ Mv N G w w'
end Go.Proofs.YtnoflgkjdibblaaGreatDoor.S19
