/-
  Texts put together: Hash3, Sl1, Sl2, Same, Dk2, Dk3, Dk4, Step, Tool. No statement is proved here.
-/
import Derived.Test.YtnoflgkjdibblaaGreatDoorWa04
import Derived.Test.YtnoflgkjdibblaaGreatDoorWa01
import Derived.Test.YtnoflgkjdibblaaGreatDoorWa02
import Derived.RegionTactic
import Derived.ChangeAlike
import Derived.Deep.Draws
import Derived.Deep.Cut
import Derived.Deep.RegionHeld3
import Derived.Deep.DrawnRows
import Derived.Deep.AppendLies
import Derived.Lib.SlBytesConst

/-
  A text that is summed: what Sum and One do.
-/
namespace Go.Proofs.YtnoflgkjdibblaaGreatDoor.S2
set_option linter.unusedSimpArgs false
set_option linter.unusedVariables false
set_option maxRecDepth 1024
open Go.RowKit

def outs (ws : List UInt32) (k : Nat) : List UInt8 := (ws.take k).flatMap fun x => putL x.toNat 4
theorem outs_succ (ws : List UInt32) (k : Nat) (h : k < ws.length) : outs ws (k + 1) = outs ws k ++ putL (ws.getD k 0).toNat 4 := by
  unfold outs
  rw [List.take_succ_eq_append_getElem h, List.flatMap_append]
  simp [List.getD, h]
theorem outs_length (ws : List UInt32) (k : Nat) (h : k ≤ ws.length) : (outs ws k).length = 4 * k := by
  induction k with
  | zero => rfl
  | succ k ih => rw [outs_succ _ _ (by omega), List.length_append, ih (by omega), putL_length]; omega
theorem outs_all (s : St) : outs s.list 8 = outL s := by
  unfold outs outL
  rw [List.take_of_length_le (by simp [St.list])]
theorem sum_length (xs : List UInt8) : (sum xs).length = 32 := by
  rw [sum, ← outs_all, outs_length _ _ (by simp [St.list])]
theorem sL_uv (s : St) : (sL s).toArray = uA s.list := rfl
theorem list_length (s : St) : s.list.length = 8 := rfl
theorem Tryz.zeroHash : (Tryz.prog.info? 179).map (fun i => (i.zero, i.size)) = some (some (.agg (hC ⟨0, 0, 0, 0, 0, 0, 0, 0⟩ (List.replicate 64 0) 0).toArray), 73) := by kernel_rfl
theorem hC_size (s : St) (r : List UInt8) (n : Nat) (h : r.length = 64) : (hC s r n).toArray.size = 73 := by simp [hC, sL_length, bv_length, h]
theorem hC_one (s : St) (r : List UInt8) (n : Nat) : (hC s r n).toArray.all (·.oneCell') = true := by
  refine all_oneCell_toArray fun v hv => ?_
  simp only [hC, List.mem_append, List.mem_singleton] at hv
  rcases hv with (hv | hv) | hv
  · simp only [sL, List.mem_cons, List.not_mem_nil, or_false] at hv
    rcases hv with rfl | rfl | rfl | rfl | rfl | rfl | rfl | rfl <;> rfl
  · exact bv_one _ v hv
  · subst hv; rfl
theorem put_4 (x : UInt32) (w : World) :
    Calls Tryz.prog 86 #[.int .u64 (x.toNat : Int), .int .i64 4] w fun e w' => ∃ (A : Option Addr) (c : Nat), e = .returned (.slice A 4 c) ∧ Rd w' A 4 c (putL x.toNat 4) ∧ Below w.heap.size w w' := by
  refine (put_any x.toNat 4 w (by omega) (by have := u32_lt x; omega)).mono ?_
  rintro e w' ⟨A, n, c, rfl, ho, hb⟩
  obtain rfl : 4 = n := by have e1 := own_len ho; rw [putL_length] at e1; exact e1
  exact ⟨A, c, rfl, Rd.own ho, hb⟩
theorem pad_length (xs : List UInt8) : 64 ≤ (pad xs).length := by
  rw [pad_end, List.length_append, endL_length]
  have : (xs.length + 8) % 64 < 64 := Nat.mod_lt _ (by omega)
  omega

theorem own_below {w w' : World} {B e size n : Nat} {v : Value} {xs : List Value} (h : w.ownsRow B e size v n xs) (hb : Below w.heap.size w w') : w'.ownsRow B e size v n xs := by
  refine ⟨h.1, ?_⟩
  rcases h.2 with h | ⟨g, cap, cur, h1, h2, h3, h4⟩
  · exact .inl h
  · exact .inr ⟨g, cap, cur, h1, h2, (hb.block g (Array.getElem?_eq_some_iff.1 h3).1).trans h3, h4⟩
set_option maxHeartbeats 1000000 in
theorem sum_any (g : Nat) (xs : List UInt8) (w : World) (hh : HashIs w g xs) (hk : GOk w) (hm : xs.length ≤ 2147483648) :
    Calls Tryz.prog 113 #[.pointer (some ⟨g, 0, none⟩)] w (New w.heap.size w (sum xs)) := by
  obtain ⟨i0, hi, hz0, hz1, hz2⟩ := info_parts Tryz.infoU8
  obtain ⟨r, hr1, hr2, hb⟩ := hh
  have hlt := hb.lt
  obtain ⟨cs, hcs⟩ : ∃ cs, cs = (hC (turns hH xs (xs.length / 64)) r xs.length).toArray := ⟨_, rfl⟩
  have hsz : cs.size = 73 := by rw [hcs]; exact hC_size _ _ _ hr1
  have h1c : cs.all (·.oneCell') = true := by rw [hcs]; exact hC_one _ _ _
  obtain ⟨zs, hzs⟩ : ∃ zs, zs = (hC ⟨0, 0, 0, 0, 0, 0, 0, 0⟩ (List.replicate 64 0) 0).toArray := ⟨_, rfl⟩
  have hzz : zs.size = 73 := by rw [hzs]; exact hC_size _ _ _ (by simp)
  have hz := (zero_of_info (P := Tryz.prog) Tryz.zeroHash).1
  have hi73 := (zero_of_info (P := Tryz.prog) Tryz.zeroHash).2
  rw [← hzs] at hz
  rw [← hcs] at hb
  have HCS := Lib.hid hcs
  have HSZ := Lib.hid hsz
  have HZZ := Lib.hid hzz
  have H1 := Lib.hid h1c
  have HI := Lib.hid hi73
  have HB := Lib.hid hb
  have HR1 := Lib.hid hr1
  have HR2 := Lib.hid hr2
  clear hcs hsz hzz h1c hi73 hzs hb hr1 hr2
  have HE := Lib.hid (show HashIs (w.alloc (.cells cs 179)) w.heap.size xs from ⟨r, HR1.out, HR2.out, by have := HCS.out; rw [← this]; exact Bk.newAt _ _ _ _ rfl⟩)
  have hb1 : Below w.heap.size w (w.alloc (.cells cs 179)) := (Below.refl _ _).alloc (Nat.le_refl _) _
  have HK1 := Lib.hid (hk.below (Nat.le_refl _) hb1)
  have HNE := Lib.hid (Nat.ne_of_gt hk.lt.1)
  have HB1 := Lib.hid hb1
  clear hb1
  go_enter Tryz.func113, Tryz.ntmps113
  go_wp2_with (first
    | (refine wpList_load_row rfl 179 _ rfl g rfl 179 cs (0, 0) _ HB.out Tryz.underlying179 rfl (by rw [HSZ.out]; exact HI.out) ?_)
    | (refine wpList_store_row rfl 179 _ _ rfl w.heap.size cs rfl rfl 179 zs (Bk.newAt _ _ _ _ rfl) (by rw [HSZ.out]; exact HI.out) (by rw [HZZ.out, HSZ.out]) H1.out ?_; rw [World.setRow_alloc_new])
    | (go_at_call 125; ((with_reducible refine (end_any w.heap.size xs _ HE.out HK1.out HNE.out hm).mono ?_); rintro e w1 ⟨rfl, hh1, ho1⟩; have HH1 := Lib.hid hh1; have HO1 := Lib.hid ho1; clear hh1 ho1; have hB1 : Below w.heap.size w w1 := below_only HB1.out HO1.out (Nat.le_refl _) HB1.out.size))
    | (at_make; refine wpList_make_own _ rfl _ _ 23 rfl w.heap.size 5 i0 (.int .u8 0) 1 Tryz.underlying23 hi hz0 hz1 _ _ _ 32 rfl rfl (by decide) (by rw [hz2]; decide) (by unfold maxLen; decide) hB1.size ?_))
  intro w2 hown0 hgrow0
  obtain ⟨st, r', n', hst, hr', hb1⟩ : ∃ (st : St) (r' : List UInt8) (n' : Nat), Hid (sum xs = outL st) ∧ r'.length = 64 ∧ Bk w1 w.heap.size 179 (hC st r' n').toArray := by
    obtain ⟨r', h1, h2, h3⟩ := HH1.out
    exact ⟨_, r', _, rfl, h1, h3⟩
  clear hr'
  clear hz
  have hB2 : Below w.heap.size w w2 := hB1.grown hgrow0 hB1.size (fun k h => by cases h)
  have hb2 := hb1.only hgrow0 (by simp)
  have HR := Lib.hid (show w2.rangeAt w.heap.size 0 (sL st) from by
    have h1 : Bk w2 w.heap.size 179 ([] ++ sL st ++ (bv r' ++ [Value.int .u64 (n' : Int)])).toArray := by simpa [hC] using hb2
    exact h1.range)
  clear hgrow0 hb2 hb1
  go_wp2_with (refine wpList_load_mid rfl 168 _ rfl w.heap.size 0 rfl (sL st) _ HR.out Tryz.underlying168 rfl Tryz.info8 ?_)
  go_loopw [4, 6, 14] (fun out _ i wr => ∃ k m : Nat, k ≤ 8 ∧ i = .int .i64 (k : Int) ∧ wr.ownsRow w.heap.size 5 1 out m (bv (outs st.list k)) ∧ Below w.heap.size w wr) (fun _ _ i _ => 8 - (intOf i).toNat)
  case atStart => exact ⟨0, 0, by omega, rfl, by simpa [bv, outs] using hown0, hB2⟩
  case round =>
    obtain ⟨k, m, hk8, rfl, hown, hbel⟩ := hrel
    clear hown0 hB2
    by_cases hlt8 : k < 8
    · obtain ⟨x, hx⟩ : ∃ x, x = st.list.getD k 0 := ⟨_, rfl⟩
      have E := Lib.hid (outs_succ st.list k (by rw [list_length]; exact hlt8))
      have hml : m ≤ 32 := by have := own_len hown; rw [outs_length _ _ (by rw [list_length]; omega)] at this; omega
      have hrun := fun W => run_index_agg (P := Tryz.prog) (T := 168) Tryz.underlying168 Tryz.infoU32 Tryz.underlying158 (sL st).toArray .i64 (k : Int) (by omega) (by omega) (.int .u32 (x.toNat : Int)) (by rw [sL_uv, Int.toNat_natCast, hx]; exact uA_get _ _ (by rw [list_length]; exact hlt8)) rfl W
      rw [← hx] at E
      have hwx : IntKind.u64.wrap (x.toNat : Int) = (x.toNat : Int) := by have := u32_lt x; rw [IntKind.wrap_u64]; omega
      have hbs := hbel.size
      clear hx
      go_wp2_with (first
        | (go_at_call 86; ((with_reducible refine (put_4 x _).mono ?_); rintro e w3 ⟨A3, c3, rfl, hr3, hb3⟩; have hown3 := own_below hown hb3; have hbel3 := hbel.trans (hb3.mono hbs)))
        | (at_builtin; refine append_rd rfl _ _ rfl w.heap.size _ m _ rfl hown3 A3 4 c3 _ rfl hr3 (by omega) hbel3.size ?_; intro v' w4 hown4 hg4))
      go_roundw
      case rel => exact ⟨k + 1, m + 4, by omega, by go_num, by rw [E.out]; exact hown4, hbel3.grown hg4 hbel3.size (fun g hg => (hown3.lt g hg).1)⟩
      case measure => simp [intOf]; omega
    · have e := outs_all st
      obtain rfl : k = 8 := by omega
      rw [e, ← hst.out] at hown
      clear e
      go_wp2
      go_ret
      exact New.mk hown hbel

set_option maxHeartbeats 1000000 in
theorem one_any (A : Option Addr) (n c : Nat) (xs : List UInt8) (w : World) (hr : Rd w A n c xs) (hk : GOk w) (hm : n ≤ 2147483648) :
    Calls Tryz.prog 87 #[.slice A n c] w (New w.heap.size w (sum xs)) := by
  have hl := hr.len
  have HM := Lib.hid (show xs.length ≤ 2147483648 by omega)
  have HM2 := Lib.hid (show ([] : List UInt8).length + n ≤ 4294967296 by simp; omega)
  have HNE := Lib.hid (Nat.ne_of_gt hk.lt.1)
  have HNE1 := Lib.hid (Nat.ne_of_gt hk.lt.2)
  clear hl
  go_enter Tryz.func87, Tryz.ntmps87
  go_wp2_with (first
    | (go_at_call 111; ((with_reducible refine (new_any _ hk).mono ?_); rintro e w1 ⟨rfl, hh1, hb1⟩; have HH1 := Lib.hid hh1; have HB1 := Lib.hid hb1; have hr1 := hr.below hb1; clear hh1 hb1))
    | (go_at_call 112; ((with_reducible refine (write_any w.heap.size A n c [] xs w1 HH1.out hr1 (sep_new hr (Nat.le_refl _)) (hk.below (Nat.le_refl _) HB1.out).k HNE.out HM2.out).mono ?_); rintro e w2 ⟨rfl, hh2, ho2⟩; have HH2 := Lib.hid (show HashIs w2 w.heap.size xs from hh2); have HO2 := Lib.hid ho2; clear hh2 ho2))
    | (go_at_call 113; ((with_reducible refine (sum_any w.heap.size xs w2 HH2.out ((hk.below (Nat.le_refl _) HB1.out).only HO2.out HNE.out HNE1.out) HM.out).mono ?_); rintro e w3 ⟨A3, n3, c3, rfl, ho3, hb3⟩)))
  go_ret
  exact New.from (below_only HB1.out HO2.out (Nat.le_refl _) HB1.out.size) ⟨A3, n3, c3, rfl, ho3, hb3⟩
end Go.Proofs.YtnoflgkjdibblaaGreatDoor.S2

/-
  A record in two places, in plain words. No statement is proved here.
-/
namespace Go.Proofs.YtnoflgkjdibblaaGreatDoor.S20
set_option linter.unusedSimpArgs false
set_option linter.unusedVariables false
open S19 (Dk)

/-- How many bytes a record may have. -/
def room (n : Int) : Nat := if 1 ≤ n ∧ n ≤ 8 then 64 * n.toNat - 28 else 0
def headB (num : Nat) (b : List UInt8) : List UInt8 := putL num 8 ++ putL b.length 4 ++ b
theorem headB_len (num : Nat) (b : List UInt8) : (headB num b).length = 12 + b.length := by simp [headB, putL_length]; omega
def fullB (num : Nat) (b : List UInt8) : List UInt8 := headB num b ++ (S2.sum (headB num b)).take 16
theorem fullB_len (num : Nat) (b : List UInt8) : (fullB num b).length = 28 + b.length := by simp [fullB, headB_len, S2.sum_length]; omega
/-- A record, filled up to so many sectors. -/
def recB (num : Nat) (b : List UInt8) (n : Nat) : List UInt8 := fullB num b ++ List.replicate (64 * n - (28 + b.length)) 0
theorem recB_len (num : Nat) (b : List UInt8) (n : Nat) (h : 28 + b.length ≤ 64 * n) : (recB num b n).length = 64 * n := by simp [recB, fullB_len]; omega
def numOf (xs : List UInt8) : Nat := getL (xs.take 8)
def cntOf (xs : List UInt8) : Nat := getL ((xs.drop 8).take 4)
def dataOf (xs : List UInt8) : List UInt8 := (xs.drop 12).take (cntOf xs)
/-- The record that bytes are; number 0: none. -/
def wholeP (xs : List UInt8) (n : Nat) : Prop := numOf xs ≠ 0 ∧ cntOf xs ≤ room n ∧ recB (numOf xs) (dataOf xs) n = xs
instance (xs : List UInt8) (n : Nat) : Decidable (wholeP xs n) := by unfold wholeP; exact inferInstance
def whole (xs : List UInt8) (n : Nat) : Nat × List UInt8 := if wholeP xs n then (numOf xs, dataOf xs) else (0, [])
def blank (xs : List UInt8) (n : Nat) : Bool := decide (xs = List.replicate (64 * n) 0)
/-- Two areas, and what counts: which (-1: none), its number, and its bytes. -/
structure Sl where
  first : Nat
  n : Nat
  at_ : Int
  num : Nat
  b : List UInt8
namespace Sl
def new (first n : Nat) : Sl := ⟨first, n, -1, 0, []⟩
/-- So many sectors, one behind the other, as they read. -/
def areaK (D : Dk) (at_ : Nat) : Nat → List UInt8
  | 0 => []
  | k + 1 => areaK D at_ k ++ D.atS (at_ + k)
def area (Z : Sl) (D : Dk) (i : Nat) : List UInt8 := areaK D (Z.first + i * Z.n) Z.n
/-- One area more has been looked at. -/
def look (Z : Sl) (D : Dk) (i : Nat) (z : Int × Nat × List UInt8) : Int × Nat × List UInt8 := if z.2.1 < (whole (Z.area D i) Z.n).1 then ((i : Int), whole (Z.area D i) Z.n) else z
def seen (Z : Sl) (D : Dk) : Int × Nat × List UInt8 := Z.look D 1 (Z.look D 0 (-1, 0, []))
def load (Z : Sl) (D : Dk) : Sl := if D.off = true then Z else { Z with at_ := (Z.seen D).1, num := (Z.seen D).2.1, b := (Z.seen D).2.2 }
def loadC (Z : Sl) (D : Dk) : Nat := if D.off = true then 6 else if (Z.seen D).1 < 0 then (if blank (Z.area D 0) Z.n || blank (Z.area D 1) Z.n then 11 else 8) else 0
def loadB (Z : Sl) (D : Dk) : List UInt8 := if Z.loadC D = 0 then (Z.load D).b else []
def loadN (Z : Sl) (D : Dk) : Nat := if Z.loadC D = 0 then (Z.load D).num else 0
/-- Where the next record goes. -/
def goes (Z : Sl) : Nat := if Z.at_ = 0 then 1 else 0
def next (Z : Sl) : Nat := (Z.num + 1) % 18446744073709551616
def row (xs : List UInt8) (k : Nat) : List UInt8 := (xs.drop (64 * k)).take 64
/-- k sectors are to be written, from the j-th one on: what is told, and the disk. -/
def writes (at_ : Nat) (xs : List UInt8) : Nat → Nat → Dk → Nat × Dk
  | 0, _, D => (0, D)
  | k + 1, j, D => if D.writeC ((at_ + j : Nat) : Int) (row xs j) = 0 then writes at_ xs k (j + 1) (D.write ((at_ + j : Nat) : Int) (row xs j)) else (D.writeC ((at_ + j : Nat) : Int) (row xs j), D.write ((at_ + j : Nat) : Int) (row xs j))
def written (Z : Sl) (D : Dk) (b : List UInt8) : Nat × Dk := writes (Z.first + Z.goes * Z.n) (recB Z.next b Z.n) Z.n 0 D
def saveC (Z : Sl) (D : Dk) (b : List UInt8) : Nat := if room Z.n < b.length then 1 else if (Z.written D b).1 = 0 then (Z.written D b).2.stepC else (Z.written D b).1
def saveD (Z : Sl) (D : Dk) (b : List UInt8) : Dk := if room Z.n < b.length then D else if (Z.written D b).1 = 0 then (Z.written D b).2.flush else (Z.written D b).2
def save (Z : Sl) (D : Dk) (b : List UInt8) : Sl := if Z.saveC D b = 0 then { Z with at_ := (Z.goes : Int), num := Z.next, b := b } else Z
/-- What holds of every one. -/
structure Ok (Z : Sl) (D : Dk) : Prop where
  one : 1 ≤ Z.n
  most : Z.n ≤ 8
  fits : Z.first + 2 * Z.n ≤ D.sure.length
  at_ : Z.at_ = -1 ∨ Z.at_ = 0 ∨ Z.at_ = 1
  num : Z.num < 18446744073709551616
end Sl
theorem room_nat {n : Nat} (h1 : 1 ≤ n) (h2 : n ≤ 8) : room n = 64 * n - 28 := by
  unfold room
  rw [if_pos (by omega), Int.toNat_natCast]
theorem numOf_lt (xs : List UInt8) : numOf xs < 18446744073709551616 := by
  have h := getL_lt (xs.take 8)
  have : 256 ^ (xs.take 8).length ≤ 256 ^ 8 := Nat.pow_le_pow_right (by omega) (by simp; omega)
  unfold numOf
  have e : (256 : Nat) ^ 8 = 18446744073709551616 := by decide
  omega
theorem cntOf_lt (xs : List UInt8) : cntOf xs < 4294967296 := by
  have h := getL_lt ((xs.drop 8).take 4)
  have : 256 ^ ((xs.drop 8).take 4).length ≤ 256 ^ 4 := Nat.pow_le_pow_right (by omega) (by simp; omega)
  unfold cntOf
  have e : (256 : Nat) ^ 4 = 4294967296 := by decide
  omega
end Go.Proofs.YtnoflgkjdibblaaGreatDoor.S20

/-
  Numbers as bytes, and what a record's bytes say. No statement is proved here.
-/
namespace Go.Proofs.YtnoflgkjdibblaaGreatDoor.S20
set_option linter.unusedSimpArgs false
set_option linter.unusedVariables false
open S19 (Dk)

theorem getL_at (xs : List UInt8) : ∀ a : Nat, xs.foldl (fun v c => v * 256 + c.toNat) a = a * 256 ^ xs.length + getL xs := by
  induction xs with
  | nil => intro a; simp [getL]
  | cons c xs ih =>
    intro a
    have e : getL (c :: xs) = xs.foldl (fun v c => v * 256 + c.toNat) (0 * 256 + c.toNat) := rfl
    rw [List.foldl_cons, ih, e, ih, List.length_cons, Nat.pow_succ]
    have h1 : (a * 256 + c.toNat) * 256 ^ xs.length = a * (256 ^ xs.length * 256) + c.toNat * 256 ^ xs.length := by
      rw [Nat.add_mul, Nat.mul_assoc, Nat.mul_comm 256]
    have h2 : (0 * 256 + c.toNat) * 256 ^ xs.length = c.toNat * 256 ^ xs.length := by rw [Nat.zero_mul, Nat.zero_add]
    omega
theorem getL_cons (c : UInt8) (xs : List UInt8) : getL (c :: xs) = c.toNat * 256 ^ xs.length + getL xs := by
  have e : getL (c :: xs) = xs.foldl (fun v c => v * 256 + c.toNat) (0 * 256 + c.toNat) := rfl
  rw [e, getL_at, Nat.zero_mul, Nat.zero_add]
theorem getL_putL (V : Nat) : ∀ n, getL (putL V n) = V % 256 ^ n
  | 0 => by simp [putL, getL, Nat.mod_one]
  | n + 1 => by
    rw [putL, getL_cons, getL_putL V n, putL_length]
    have h1 : (UInt8.ofNat (V / 256 ^ n)).toNat = V / 256 ^ n % 256 := by simp
    rw [h1, Nat.pow_succ, Nat.mod_mul, Nat.mul_comm (256 ^ n)]
    omega
theorem numOf_rec {num : Nat} (h : num < 18446744073709551616) (b : List UInt8) (n : Nat) : numOf (recB num b n) = num := by
  unfold numOf
  have e : (recB num b n).take 8 = putL num 8 := by
    unfold recB fullB headB
    rw [List.append_assoc, List.append_assoc, List.append_assoc, List.append_assoc, List.take_append_of_le_length (by simp [putL_length]), List.take_of_length_le (by simp [putL_length])]
  rw [e, getL_putL]
  exact Nat.mod_eq_of_lt (by have e : (256 : Nat) ^ 8 = 18446744073709551616 := by decide
                             omega)
theorem drop12 (num : Nat) (b : List UInt8) (n : Nat) : (recB num b n).drop 12 = b ++ ((S2.sum (headB num b)).take 16 ++ List.replicate (64 * n - (28 + b.length)) 0) := by
  unfold recB fullB
  generalize (S2.sum (headB num b)).take 16 = s
  generalize List.replicate (64 * n - (28 + b.length)) (0 : UInt8) = r
  show ((putL num 8 ++ putL b.length 4 ++ b) ++ s ++ r).drop 12 = b ++ (s ++ r)
  rw [List.append_assoc, List.append_assoc, List.drop_append_of_le_length (by simp [putL_length]), List.drop_of_length_le (by simp [putL_length]), List.nil_append]
theorem cntOf_rec (num : Nat) {b : List UInt8} (hb : b.length < 4294967296) (n : Nat) : cntOf (recB num b n) = b.length := by
  unfold cntOf
  have e : ((recB num b n).drop 8).take 4 = putL b.length 4 := by
    unfold recB fullB headB
    rw [List.append_assoc, List.append_assoc, List.append_assoc, List.append_assoc, List.drop_append_of_le_length (by simp [putL_length]), List.drop_of_length_le (by simp [putL_length]), List.nil_append, List.take_append_of_le_length (by simp [putL_length]), List.take_of_length_le (by simp [putL_length])]
  rw [e, getL_putL]
  exact Nat.mod_eq_of_lt (by have e : (256 : Nat) ^ 4 = 4294967296 := by decide
                             omega)
theorem dataOf_rec (num : Nat) {b : List UInt8} (hb : b.length < 4294967296) (n : Nat) : dataOf (recB num b n) = b := by
  unfold dataOf
  rw [cntOf_rec num hb, drop12, List.take_append_of_le_length (Nat.le_refl _), List.take_of_length_le (Nat.le_refl _)]
/-- A record is whole. -/
theorem whole_rec {num n : Nat} (h0 : num ≠ 0) (h : num < 18446744073709551616) (h1 : 1 ≤ n) (h8 : n ≤ 8) {b : List UInt8} (hb : b.length ≤ room n) : whole (recB num b n) n = (num, b) := by
  have hr := room_nat h1 h8
  have hb' : b.length < 4294967296 := by omega
  have e1 := numOf_rec h b n
  have e2 := cntOf_rec num hb' n
  have e3 := dataOf_rec num hb' n
  unfold whole
  rw [if_pos (show wholeP _ _ from ⟨by rw [e1]; exact h0, by rw [e2]; exact hb, by rw [e1, e3]⟩), e1, e3]
theorem whole_lt (xs : List UInt8) (n : Nat) : (whole xs n).1 < 18446744073709551616 := by
  unfold whole
  split
  · exact numOf_lt xs
  · show 0 < 18446744073709551616
    omega
end Go.Proofs.YtnoflgkjdibblaaGreatDoor.S20

/-
  What the document's own Same does.
-/
namespace Go.Proofs.YtnoflgkjdibblaaGreatDoor
set_option linter.unusedSimpArgs false
set_option linter.unusedVariables false
set_option maxRecDepth 1024
open Go.RowKit

def sameB (xs ys : List UInt8) : Bool := xs == ys
theorem sameB_refl (xs : List UInt8) : sameB xs xs = true := by simp [sameB]
theorem take_next {xs ys : List UInt8} {k : Nat} (h : xs.take k = ys.take k) (hx : k < xs.length) (hy : k < ys.length) (he : xs[k]?.getD 0 = ys[k]?.getD 0) : xs.take (k + 1) = ys.take (k + 1) := by
  rw [List.take_succ_eq_append_getElem hx, List.take_succ_eq_append_getElem hy, h]
  simp [hx, hy] at he
  rw [he]

set_option maxHeartbeats 1000000 in
theorem rsame_any (A A' : Option Addr) (n c n' c' : Nat) (xs ys : List UInt8) (w : World) (h1 : Rd w A n c xs) (h2 : Rd w A' n' c' ys) :
    Calls Tryz.prog 26 #[.slice A n c, .slice A' n' c'] w fun e w' => e = .returned (.bool (sameB xs ys)) ∧ ∃ q, w' = w.drewN q := by
  have l1 : n ≤ maxLen := Nat.le_trans h1.cap h1.max
  have l2 : n' ≤ maxLen := Nat.le_trans h2.cap h2.max
  unfold maxLen at l1 l2
  have e1 := h1.len
  have e2 := h2.len
  by_cases hnn : n = n'
  · subst hnn
    have E1 := Lib.hid e1
    have E2 := Lib.hid e2
    clear e1 e2
    go_enter Tryz.func26, Tryz.ntmps26
    go_wp2
    go_loopw [5] (fun i wr => ∃ k q : Nat, k ≤ n ∧ i = .int .i64 (k : Int) ∧ wr = w.drewN q ∧ xs.take k = ys.take k) (fun i _ => n - (intOf i).toNat)
    case atStart => exact ⟨0, 0, Nat.zero_le _, rfl, rfl, rfl⟩
    case round =>
      obtain ⟨k, q, hk, rfl, rfl, hpre⟩ := hrel
      have HP := Lib.hid hpre
      clear hpre
      by_cases hlt : k < n
      · obtain ⟨b1, o1, rfl, hb1, hc1⟩ := h1.at_ (by omega)
        obtain ⟨b2, o2, rfl, hb2, hc2⟩ := h2.at_ (by omega)
        have g1 := hc1 k hlt
        have g2 := hc2 k hlt
        have hki : (k : Int) < n := by omega
        simp only [List.getD_eq_getElem?_getD] at g1 g2
        clear hc1 hc2
        by_cases heq : xs[k]?.getD 0 = ys[k]?.getD 0
        · have HE := Lib.hid heq
          have ht : (((xs[k]?.getD 0).toNat : Int) != ((ys[k]?.getD 0).toNat : Int)) = false := by rw [heq]; simp
          clear heq
          go_wp2
          go_region
          go_wp2
          go_roundw
          case rel => exact ⟨k + 1, q + 1, by omega, by go_num, rfl, take_next HP.out (by have := E1.out; omega) (by have := E2.out; omega) HE.out⟩
          case measure => simp [intOf]; omega
        · have hne : sameB xs ys = false := by
            simp only [sameB, beq_eq_false_iff_ne]
            intro e; rw [e] at heq; exact heq rfl
          have ht : (((xs[k]?.getD 0).toNat : Int) != ((ys[k]?.getD 0).toNat : Int)) = true := by
            simp only [bne_iff_ne, ne_eq]
            intro e
            exact heq (UInt8.toNat_inj.1 (by omega))
          have HN := Lib.hid hne
          clear heq hne
          go_wp2
          go_region
          go_wp2
          go_ret
          exact ⟨by rw [HN.out]; rfl, q + 1, rfl⟩
      · obtain rfl : k = n := by omega
        have hs : sameB xs ys = true := by
          have hp := HP.out
          rw [List.take_of_length_le (by have := E1.out; omega), List.take_of_length_le (by have := E2.out; omega)] at hp
          rw [hp]; exact sameB_refl _
        have HN := Lib.hid hs
        clear hs
        go_wp2
        go_ret
        exact ⟨by rw [HN.out]; rfl, q, rfl⟩
  · have hne : sameB xs ys = false := by
      simp only [sameB, beq_eq_false_iff_ne]
      intro e; rw [e] at e1; omega
    have HN := Lib.hid hne
    have ht : ((n : Int) != (n' : Int)) = true := by simp; omega
    clear hne e1 e2 hnn
    go_enter Tryz.func26, Tryz.ntmps26
    go_wp2
    go_ret
    exact ⟨by rw [HN.out]; rfl, 0, rfl⟩

theorem rsame_true (A A' : Option Addr) (n c n' c' : Nat) (xs ys : List UInt8) (w : World) (h1 : Rd w A n c xs) (h2 : Rd w A' n' c' ys) (he : xs = ys) :
    Calls Tryz.prog 26 #[.slice A n c, .slice A' n' c'] w fun e w' => e = .returned (.bool true) ∧ Below w.heap.size w w' :=
  (rsame_any A A' n c n' c' xs ys w h1 h2).mono fun e w' ⟨h, q, hq⟩ => ⟨by rw [h, he, sameB_refl], by rw [hq]; exact ⟨rfl, rfl, rfl, Nat.le_refl _, fun _ _ => rfl⟩⟩
theorem own_lit_u8 (w : World) (B : Nat) (xs : List UInt8) (hB : B ≤ w.heap.size) (hm : xs.length ≤ maxLen) :
    (w.alloc (.cells (bv xs).toArray 5)).ownsRow B 5 1 (.slice (some ⟨w.heap.size, 0, none⟩) xs.length xs.length) xs.length (bv xs) := by
  have := World.ownsRow_lit (base := B) (e := 5) (size := 1) w (bv xs).toArray xs.length hB hm (by simp [bv_length])
  simpa using this
theorem rd_lit (w : World) (vs : Array Value) (xs : List UInt8) (h : vs.toList = bv xs) (hm : xs.length ≤ maxLen) (b : Nat) (hb : w.heap.size = b) : Rd (w.alloc (.cells vs 5)) (some ⟨b, 0, none⟩) xs.length xs.length xs := by
  subst hb
  obtain ⟨vs⟩ := vs
  simp only at h
  subst h
  exact Rd.of_bk (Bk.newAt _ _ _ _ rfl) rfl (Nat.le_refl _) hm fun j hj => by rw [Nat.zero_add]; exact bv_getElem? _ _ hj
end Go.Proofs.YtnoflgkjdibblaaGreatDoor

/-
  What the calls of package disk are to do, as one structure; what a call on a disk may touch. No statement is proved here.
-/
namespace Go.Proofs.YtnoflgkjdibblaaGreatDoor.S19
set_option linter.unusedSimpArgs false
set_option linter.unusedVariables false
open Go.RowKit

/-- What a call on something that lies in the blocks of F may touch: these, and new ones; what lay below N stays. -/
structure Mv (N : Nat) (F : Nat → Prop) (w w' : World) : Prop where
  bel : Below N w w'
  same : ∀ b, b < w.heap.size → ¬ F b → w'.heap[b]? = w.heap[b]?
section
variable {N : Nat} {F F' : Nat → Prop} {w w' w'' : World}
theorem Mv.refl (N : Nat) (F : Nat → Prop) (w : World) : Mv N F w w := ⟨Below.refl _ _, fun _ _ _ => rfl⟩
theorem Mv.trans (h : Mv N F w w') (k : Mv N F' w' w'') (hF : ∀ b, F' b → F b ∨ w.heap.size ≤ b) : Mv N F w w'' :=
  ⟨h.bel.trans k.bel, fun b h1 h2 => (k.same b (Nat.lt_of_lt_of_le h1 h.bel.size) fun e => (hF b e).elim h2 fun e => by omega).trans (h.same b h1 h2)⟩
theorem Mv.of (hN : N ≤ w.heap.size) (h : Below w.heap.size w w') : Mv N F w w' := ⟨h.mono hN, fun b h1 _ => h.block b h1⟩
theorem Mv.size (h : Mv N F w w') : w.heap.size ≤ w'.heap.size := h.bel.size
theorem Mv.mono (h : Mv N F w w') (hF : ∀ b, F b → F' b) : Mv N F' w w' := ⟨h.bel, fun b h1 h2 => h.same b h1 fun e => h2 (hF b e)⟩
theorem Mv.rd (h : Mv N F w w') {A : Option Addr} {m c : Nat} {xs : List UInt8} (hr : Rd w A m c xs) (ha : ∀ a, 0 < m → A = some a → ¬ F a.block) : Rd w' A m c xs := by
  refine ⟨hr.len, hr.cap, hr.max, hr.nil, fun hn => ?_⟩
  obtain ⟨b, off, rfl, hb, hc⟩ := hr.at_ hn
  exact ⟨b, off, rfl, Nat.lt_of_lt_of_le hb h.size, fun j hj => (World.cell?_of_block (a := ⟨b, off + j, none⟩) (h.same b hb (ha _ hn rfl))).trans (hc j hj)⟩
/-- A row below N. -/
theorem Mv.rdN (h : Mv N F w w') {w0 : World} (hN : w0.heap.size = N) (h0 : Below N w0 w) {A : Option Addr} {m c : Nat} {xs : List UInt8} (hr : Rd w0 A m c xs) : Rd w' A m c xs :=
  hr.below (by rw [hN]; exact h0.trans h.bel)
theorem Mv.bk (h : Mv N F w w') {g : Nat} {t : TypeId} {cs : Array Value} (hb : Bk w g t cs) (hg : ¬ F g) : Bk w' g t cs := (h.same _ hb.lt hg).trans hb
end

/-- A row of whole numbers. -/
structure RI (w : World) (k : IntKind) (A : Option Addr) (n c : Nat) (xs : List Int) : Prop where
  len : xs.length = n
  cap : n ≤ c
  max : c ≤ maxLen
  nil : A = none → c = 0
  at_ : 0 < n → ∃ b off, A = some ⟨b, off, none⟩ ∧ b < w.heap.size ∧ ∀ j, j < n → w.cell? ⟨b, off + j, none⟩ = some (.int k (xs.getD j 0))
theorem RI.nil_ (w : World) (k : IntKind) : RI w k none 0 0 [] := ⟨rfl, Nat.le_refl _, by simp [maxLen], fun _ => rfl, fun h => absurd h (by omega)⟩
theorem RI.keep {w w' : World} {k : IntKind} {A : Option Addr} {n c : Nat} {xs : List Int} (h : RI w k A n c xs) (hs : w.heap.size ≤ w'.heap.size) (hk : ∀ a, 0 < n → A = some a → a.block < w.heap.size → w'.heap[a.block]? = w.heap[a.block]?) : RI w' k A n c xs :=
  ⟨h.len, h.cap, h.max, h.nil, fun hn => by
    obtain ⟨b, off, rfl, hb, hc⟩ := h.at_ hn
    exact ⟨b, off, rfl, Nat.lt_of_lt_of_le hb hs, fun j hj => (World.cell?_of_block (a := ⟨b, off + j, none⟩) (hk ⟨b, off, none⟩ hn rfl hb)).trans (hc j hj)⟩⟩
theorem RI.below {w w' : World} {k : IntKind} {A : Option Addr} {n c : Nat} {xs : List Int} (h : RI w k A n c xs) (hb : Below w.heap.size w w') : RI w' k A n c xs :=
  h.keep hb.size fun a _ _ ha => hb.block _ ha

/-- What a call on a disk comes to: an answer, and the disk. -/
def Post (Is : Nat → World → Nat → Dk → (Nat → Prop) → Prop) (N : Nat) (F : Nat → Prop) (g : Nat) (w : World) (D' : Dk) (v : Value) (e : Ending) (w' : World) : Prop :=
  e = .returned v ∧ ∃ F', Is N w' g D' F' ∧ (∀ b, F' b → F b ∨ w.heap.size ≤ b) ∧ Mv N F w w'
/-- Slices of rows of a disk. -/
structure Rs (w : World) (S : Nat → Prop) (A : Option Addr) (n c : Nat) (xss : List (List UInt8)) : Prop where
  len : xss.length = n
  cap : n ≤ c
  max : c ≤ maxLen
  nil : A = none → c = 0
  at_ : 0 < n → ∃ b off, A = some ⟨b, off, none⟩ ∧ b < w.heap.size ∧ S b ∧ ∀ j, j < n → ∃ A' m c', w.cell? ⟨b, off + j, none⟩ = some (.slice A' m c') ∧ Rd w A' m c' (xss.getD j []) ∧ ∀ a, 0 < m → A' = some a → S a.block
theorem Rs.keep {w w' : World} {S : Nat → Prop} {A : Option Addr} {n c : Nat} {xss : List (List UInt8)} (h : Rs w S A n c xss) (hs : w.heap.size ≤ w'.heap.size) (hk : ∀ b, S b → b < w.heap.size → w'.heap[b]? = w.heap[b]?) : Rs w' S A n c xss :=
  ⟨h.len, h.cap, h.max, h.nil, fun hn => by
    obtain ⟨b, off, rfl, hb, hS, hc⟩ := h.at_ hn
    refine ⟨b, off, rfl, Nat.lt_of_lt_of_le hb hs, hS, fun j hj => ?_⟩
    obtain ⟨A', m, c', h1, h2, h3⟩ := hc j hj
    refine ⟨A', m, c', (World.cell?_of_block (a := ⟨b, off + j, none⟩) (hk b hS hb)).trans h1, ⟨h2.len, h2.cap, h2.max, h2.nil, fun hm => ?_⟩, h3⟩
    obtain ⟨b', off', rfl, hb', hc'⟩ := h2.at_ hm
    exact ⟨b', off', rfl, Nat.lt_of_lt_of_le hb' hs, fun i hi => (World.cell?_of_block (a := ⟨b', off' + i, none⟩) (hk b' (h3 _ hm rfl) hb')).trans (hc' i hi)⟩⟩
structure DC where
  ok : World → Prop
  bel : ∀ {w w' : World}, ok w → Below w.heap.size w w' → ok w'
  Is : Nat → World → Nat → Dk → (Nat → Prop) → Prop
  okD : ∀ {N : Nat} {w : World} {g : Nat} {D : Dk} {F : Nat → Prop}, Is N w g D F → D.Ok
  lt : ∀ {N : Nat} {w : World} {g : Nat} {D : Dk} {F : Nat → Prop}, Is N w g D F → ∀ b, F b → N ≤ b ∧ b < w.heap.size
  keep : ∀ {N : Nat} {w w' : World} {g : Nat} {D : Dk} {F : Nat → Prop}, Is N w g D F → w.heap.size ≤ w'.heap.size → (∀ b, (b < N ∨ F b) → b < w.heap.size → w'.heap[b]? = w.heap[b]?) → Is N w' g D F
  new : ∀ (N : Nat) (w : World) (k : Nat), ok w → N ≤ w.heap.size → 1 ≤ k → k ≤ 256 → Calls Tryz.prog 6 #[.int .i64 (k : Int)] w fun e w' => ∃ g F, e = .returned (.tuple #[.pointer (some ⟨g, 0, none⟩), .int .i64 0]) ∧ Is N w' g (Dk.new k) F ∧ (∀ b, F b → w.heap.size ≤ b) ∧ Below w.heap.size w w'
  newNot : ∀ (w : World) (k : Int), ok w → k < 1 ∨ 256 < k → k < 9223372036854775808 → -9223372036854775808 ≤ k → Calls Tryz.prog 6 #[.int .i64 k] w fun e w' => ∃ v, e = .returned (.tuple #[v, .int .i64 1]) ∧ Below w.heap.size w w'
  plan : ∀ (N : Nat) (w : World) (g : Nat) (D : Dk) (F : Nat → Prop) (A : Option Addr) (n c : Nat) (fs : List Int) (st : Int), ok w → Is N w g D F → RI w .i64 A n c fs → n ≤ 1099511627776 → Calls Tryz.prog 17 #[.pointer (some ⟨g, 0, none⟩), .agg #[.slice A n c, .int .i64 st]] w fun e w' =>
    e = .returned (.tuple #[]) ∧ ∃ F', Is N w' g (D.plan fs st) F' ∧ (∀ b, F' b → F b ∨ w.heap.size ≤ b ∨ N ≤ b ∧ ∃ a, 0 < n ∧ A = some a ∧ a.block = b) ∧ Mv N F w w'
  read : ∀ (N : Nat) (w : World) (g : Nat) (D : Dk) (F : Nat → Prop) (i : Int), ok w → Is N w g D F → Calls Tryz.prog 81 #[.pointer (some ⟨g, 0, none⟩), .int .i64 i] w fun e w' =>
    ∃ A c F', e = .returned (.tuple #[.slice A (D.readB i).length c, .int .i64 (D.readC i : Int)]) ∧ Rd w' A (D.readB i).length c (D.readB i) ∧ (∀ a, 0 < (D.readB i).length → A = some a → w.heap.size ≤ a.block ∧ ¬ F' a.block) ∧ Is N w' g D F' ∧ (∀ b, F' b → F b ∨ w.heap.size ≤ b) ∧ Mv N F w w'
  write : ∀ (N : Nat) (w : World) (g : Nat) (D : Dk) (F : Nat → Prop) (i : Int) (A : Option Addr) (n c : Nat) (b : List UInt8), ok w → Is N w g D F → Rd w A n c b → (∀ a, 0 < n → A = some a → ¬ F a.block) → D.cnt < 1099511627776 → Calls Tryz.prog 85 #[.pointer (some ⟨g, 0, none⟩), .int .i64 i, .slice A n c] w (Post Is N F g w (D.write i b) (.int .i64 (D.writeC i b : Int)))
  flush : ∀ (N : Nat) (w : World) (g : Nat) (D : Dk) (F : Nat → Prop), ok w → Is N w g D F → D.cnt < 1099511627776 → Calls Tryz.prog 60 #[.pointer (some ⟨g, 0, none⟩)] w (Post Is N F g w D.flush (.int .i64 (D.stepC : Int)))
  stop : ∀ (N : Nat) (w : World) (g : Nat) (D : Dk) (F : Nat → Prop), ok w → Is N w g D F → Calls Tryz.prog 18 #[.pointer (some ⟨g, 0, none⟩)] w (Post Is N F g w D.halt (.tuple #[]))
  up : ∀ (N : Nat) (w : World) (g : Nat) (D : Dk) (F : Nat → Prop) (A' : Option Addr) (n' c' : Nat) (ch : List UInt8) (A : Option Addr) (n c : Nat) (fs : List Int) (st : Int), ok w → Is N w g D F → Rd w A' n' c' ch → (∀ a, 0 < n' → A' = some a → ¬ F a.block) → RI w .i64 A n c fs → (∀ a, 0 < n → A = some a → ¬ F a.block) → n ≤ 1099511627776 → Calls Tryz.prog 19 #[.pointer (some ⟨g, 0, none⟩), .slice A' n' c', .agg #[.slice A n c, .int .i64 st]] w fun e w' =>
    e = .returned (.tuple #[]) ∧ ∃ F', Is N w' g (D.up ch fs st) F' ∧ (∀ b, F' b → F b ∨ w.heap.size ≤ b ∨ N ≤ b ∧ ∃ a, 0 < n ∧ A = some a ∧ a.block = b) ∧ Mv N F w w'
  sure : ∀ (N : Nat) (w : World) (g : Nat) (D : Dk) (F : Nat → Prop), ok w → Is N w g D F → Calls Tryz.prog 24 #[.pointer (some ⟨g, 0, none⟩)] w fun e w' =>
    ∃ A c F', e = .returned (.slice A D.sure.length c) ∧ Rs w' (fun b => w.heap.size ≤ b ∧ ¬ F' b) A D.sure.length c D.sure ∧ Is N w' g D F' ∧ (∀ b, F' b → F b ∨ w.heap.size ≤ b) ∧ Mv N F w w'
/-- A row that was made behind a disk lies apart from it. -/
theorem own_off (M : DC) {N : Nat} {w X : World} {g : Nat} {D : Dk} {F : Nat → Prop} {e sz n c m : Nat} {A : Option Addr} {xs : List Value} (hI : M.Is N X g D F) (q : w.ownsRow X.heap.size e sz (.slice A n c) m xs) : ∀ a, 0 < n → A = some a → ¬ F a.block := fun a _ e hF => by
  have q1 := (q.lt a.block (by rw [e]; rfl)).1
  have q2 := (M.lt hI _ hF).2
  omega
end Go.Proofs.YtnoflgkjdibblaaGreatDoor.S19

/-
  A sector's bytes as the statements of layer 19 lay them. No statement is proved here.
-/
namespace Go.Proofs.YtnoflgkjdibblaaGreatDoor.S19
set_option linter.unusedSimpArgs false
set_option linter.unusedVariables false
set_option maxRecDepth 4096
open Go.RowKit

def rowL (c : UInt8) (n : Nat) : List UInt8 := (List.range n).map fun i => UInt8.ofNat (c.toNat + i)
theorem rowL_len (c : UInt8) (n : Nat) : (rowL c n).length = n := by simp [rowL]
theorem rowL_at (c : UInt8) (n i : Nat) (h : i < n) : (rowL c n).getD i 0 = UInt8.ofNat (c.toNat + i) := by simp [rowL, List.getD, h]
theorem rowL_step (c : UInt8) (n k : Nat) (hk : k < n) : ((rowL c n).take k ++ List.replicate (n - k) 0).set k (UInt8.ofNat (c.toNat + k)) = (rowL c n).take (k + 1) ++ List.replicate (n - (k + 1)) 0 := by
  have hl := rowL_len c n
  rw [List.set_append_right _ _ (by simp [hl]; omega)]
  have e1 : k - ((rowL c n).take k).length = 0 := by simp [hl]; omega
  rw [e1, show n - k = (n - (k + 1)) + 1 by omega, List.replicate_succ, List.set_cons_zero, List.take_add_one, List.append_assoc]
  congr 1
  have : (rowL c n)[k]? = some (UInt8.ofNat (c.toNat + k)) := by simp [rowL, hk]
  rw [this]
  rfl
def rowN (s : Bool) : Nat := if s = true then 63 else 64
end Go.Proofs.YtnoflgkjdibblaaGreatDoor.S19

/-
  The statements' first question of layer 19, over the contracts. No statement is proved here.
-/
namespace Go.Proofs.YtnoflgkjdibblaaGreatDoor.S19
set_option linter.unusedSimpArgs false
set_option linter.unusedVariables false
set_option maxRecDepth 4096
open Go.RowKit

theorem DC.grow (M : DC) {N : Nat} {w w' : World} {g : Nat} {D : Dk} {F : Nat → Prop} (h : M.Is N w g D F) (hb : Below w.heap.size w w') : M.Is N w' g D F :=
  M.keep h hb.size fun b _ hlt => hb.block b hlt
/-- A byte of a row that reads so. -/
theorem Rd.byte {w : World} {A : Option Addr} {n c : Nat} {xs : List UInt8} (h : Rd w A n c xs) {i : Nat} (hi : i < n) : ∃ b off, A = some ⟨b, off, none⟩ ∧ w.cell? ⟨b, off + i, none⟩ = some (.int .u8 ((xs.getD i 0).toNat : Int)) := by
  obtain ⟨b, off, rfl, _, hc⟩ := h.at_ (by omega)
  exact ⟨b, off, rfl, hc i hi⟩
theorem rd_litD (w : World) (vs : Array Value) (xs : List UInt8) (h : vs.toList = bv xs) (hm : xs.length ≤ maxLen) (b : Nat) (hb : w.heap.size = b) : Rd (w.alloc (.cells vs 5)) (some ⟨b, 0, none⟩) xs.length xs.length xs := by
  subst hb
  obtain ⟨vs⟩ := vs
  simp only at h
  subst h
  have := World.ownsRow_lit (base := 0) (e := 5) (size := 1) w (bv xs).toArray xs.length (Nat.zero_le _) hm (by simp [bv_length])
  exact Rd.own (B := 0) (e := 5) (by simpa using this)
def awD1 (b : List UInt8) : Dk := { Dk.new 3 with cnt := 1, pend := [(1, b)] }
theorem aw_w1 (b : List UInt8) (h : b.length = 64) : (Dk.new 3).write 1 b = awD1 b ∧ (Dk.new 3).writeC 1 b = 0 := by
  constructor
  · simp [Dk.write, Dk.new, Dk.has, h, Dk.stepC, Dk.step, awD1]
  · simp [Dk.writeC, Dk.new, Dk.has, h, Dk.stepC]
theorem aw_w2 (b b' : List UInt8) (h : b.length = 64) (h' : b'.length = 64) : ((awD1 b).up [42] [] 1).writeC 0 b' = 6 := by
  simp [Dk.writeC, Dk.up, awD1, Dk.new, Dk.has, h', Dk.stepC, Dk.tear_len]
theorem aw_r (b : List UInt8) : ((awD1 b).up [42] [] 1).readC 1 = 0 ∧ ((awD1 b).up [42] [] 1).readB 1 = Dk.torn 42 (List.replicate 64 0) b := by
  have h1 : ((awD1 b).up [42] [] 1).readC 1 = 0 := by simp [Dk.readC, Dk.up, awD1, Dk.new, Dk.has, Dk.tear_len]
  refine ⟨h1, ?_⟩
  rw [Dk.readB, if_pos h1]
  rfl
theorem aw_t (b : List UInt8) : (Dk.torn 42 (List.replicate 64 0) b).getD 9 0 = b.getD 9 0 ∧ (Dk.torn 42 (List.replicate 64 0) b).getD 10 0 = 0 := by
  constructor
  · simp [Dk.torn]
  · simp [Dk.torn]
end Go.Proofs.YtnoflgkjdibblaaGreatDoor.S19

/-
  append at a step of a region that draws its order. No statement is proved here.
-/
namespace Go.Proofs.YtnoflgkjdibblaaGreatDoor
set_option linter.unusedSimpArgs false
set_option linter.unusedVariables false
set_option maxRecDepth 1024
open Go.RowKit

theorem news_rd {w : World} {ad : Addr} {m c : Nat} {ys : List UInt8} (hr : Rd w (some ad) m c ys) : ∀ j u, (bv ys)[j]? = some u → w.cell? (ad.add j) = some u := by
  intro j u hj
  have hl := hr.len
  have hjl : j < ys.length := by
    rcases Nat.lt_or_ge j ys.length with h | h
    · exact h
    · rw [List.getElem?_eq_none (by simpa [bv_length] using h)] at hj; cases hj
  obtain ⟨b, off, e, _, hc⟩ := hr.at_ (by omega)
  injection e with e
  subst e
  have hp : (⟨b, off, none⟩ : Addr).add j = ⟨b, off + j, none⟩ := by unfold Addr.add; split <;> simp_all
  rw [bv_at ys j hjl] at hj
  rw [hp, hc j (by omega), ← hj]
  simp [List.getD, hjl]

/-- append at a step of a region that draws its order; where the new row lies. -/
theorem step_append_rd {w : World} {ops : Array Oper} {o : Oper} {a : Act} {K : Act → World → Prop} {Q : Exit → Act → World → Prop} {E : Prop} (hw : Region.wanted o (yielded ops a.tmps) = true) (s x : Operand)
    (ho : o.op = .call { callee := .builtin .append, args := #[s, x], argTypes := #[23, 23] })
    (base : Nat) (v : Value) (n : Nat) (xs : List UInt8) (hs : a.eval s = v) (hown : w.ownsRow base 5 1 v n (bv xs))
    (A : Option Addr) (m c : Nat) (ys : List UInt8) (hx : a.eval x = .slice A m c) (hr : Rd w A m c ys) (hb : n + m ≤ 140737488355328) (hbase : base ≤ w.heap.size)
    (h : ∀ v' w', w'.ownsRow base 5 1 v' (n + m) (bv (xs ++ ys)) → w.grownBy w' v.ownBlock → (v'.ownBlock = v.ownBlock ∨ v'.ownBlock = some w.heap.size) → K (a.put o.dst v') w') :
    if Region.wanted o (yielded ops a.tmps) = true then Oper.wp Tryz.prog o a w K Q else E := by
  obtain ⟨i0, hi, hz0, hz1, hz2⟩ := info_parts Tryz.infoU8
  rw [if_pos hw]
  rcases A with _ | ad
  · have hc := hr.nil rfl
    have hm : m = 0 := by have := hr.cap; omega
    subst hc hm
    obtain rfl : ys = [] := List.eq_nil_of_length_eq_zero hr.len
    have hrun := run_append_owned_none (P := Tryz.prog) (w := w) base 23 o.type 5 i0 1 Tryz.underlying23 hi v n (bv xs) hown
    unfold Oper.wp
    simp [execOp, ho, resolve, invoke, builtin, hs, hx, hrun, Result.andThen]
    exact h v w (by simpa using hown) (World.grownBy.refl _ _) (.inl rfl)
  · obtain ⟨v', w', hrun, h2, h3, _, h5⟩ := run_append_own_at (P := Tryz.prog) w base 23 o.type 5 i0 (.int .u8 0) 1 1 Tryz.underlying23 hi hz0 hz1 hz2 rfl (by omega) v n (bv xs) hown ad m c (bv ys)
      (by simp [bv_length, hr.len]) (news_rd hr) (bv_one _) (by simp only [maxLen]; omega) (by omega) hbase
    unfold Oper.wp
    simp [execOp, ho, resolve, invoke, builtin, hs, hx, hrun, Result.andThen]
    exact h v' w' (by rw [bv_append]; exact h2) h3 h5

end Go.Proofs.YtnoflgkjdibblaaGreatDoor

/-
  Words for calls that stand in a row. Plain lemmas, no statement is proved here.
-/
namespace Go.Proofs.YtnoflgkjdibblaaGreatDoor
set_option linter.unusedSimpArgs false
set_option linter.unusedVariables false
set_option maxRecDepth 1024
open Go.RowKit

theorem new_len {B : Nat} {w w' : World} {xs : List UInt8} {e : Ending} (h : New B w xs e w') : ∃ (A : Option Addr) (c : Nat), e = .returned (.slice A xs.length c) ∧ Rd w' A xs.length c xs ∧ Below B w w' := by
  obtain ⟨A, n, c, he, ho, hb⟩ := h
  have hl := own_len ho
  subst hl
  exact ⟨A, c, he, Rd.own ho, hb⟩
theorem rd_markAt (w : World) (vs : Array Value) (xs : List UInt8) (fr : Nat × Nat) (b : Nat) (hb : w.heap.size = b) (h : vs.toList = bv xs) (hm : xs.length ≤ maxLen) : Rd (w.alloc (.cells vs 5 fr)) (some ⟨b, 0, none⟩) xs.length xs.length xs := by
  subst hb
  obtain ⟨vs⟩ := vs
  simp only at h
  subst h
  refine ⟨rfl, Nat.le_refl _, hm, (fun e => by cases e), fun hn => ⟨w.heap.size, 0, rfl, by simp, fun j hj => ?_⟩⟩
  rw [cell_of_row _ _ _ _ _ fr (heap_alloc_new w _), Nat.zero_add]
  exact bv_getElem? _ _ hj
theorem rd_mark (w : World) (vs : Array Value) (xs : List UInt8) (fr : Nat × Nat) (h : vs.toList = bv xs) (hm : xs.length ≤ maxLen) : Rd (w.alloc (.cells vs 5 fr)) (some ⟨w.heap.size, 0, none⟩) xs.length xs.length xs := rd_markAt w vs xs fr _ rfl h hm
theorem RdBs.built2At (w : World) (b : Nat) (hb : w.heap.size = b) (T : TypeId) {A A' : Option Addr} {n c n' c' : Nat} {xs ys : List UInt8} (h : Rd w A n c xs) (h' : Rd w A' n' c' ys) :
    RdBs (w.alloc (.cells #[.slice A n c, .slice A' n' c'] T)) (some ⟨b, 0, none⟩) 2 2 [xs, ys] := by subst hb; exact RdBs.built2 w T h h'
theorem own_below {w w' : World} {B e size n : Nat} {v : Value} {xs : List Value} (h : w.ownsRow B e size v n xs) (hb : Below w.heap.size w w') : w'.ownsRow B e size v n xs := by
  refine ⟨h.1, ?_⟩
  rcases h.2 with h | ⟨g, cap, cur, h1, h2, h3, h4⟩
  · exact .inl h
  · exact .inr ⟨g, cap, cur, h1, h2, (hb.block g (Array.getElem?_eq_some_iff.1 h3).1).trans h3, h4⟩
theorem own_base {w : World} {B B' e size n : Nat} {v : Value} {xs : List Value} (h : w.ownsRow B e size v n xs) (hB : B' ≤ B) : w.ownsRow B' e size v n xs := by
  refine ⟨h.1, ?_⟩
  rcases h.2 with h | ⟨g, cap, cur, h1, h2, h3⟩
  · exact .inl h
  · exact .inr ⟨g, cap, cur, h1, Nat.le_trans hB h2, h3⟩
theorem own_only {w w' : World} {B e size n g : Nat} {v : Value} {xs : List Value} (h : w.ownsRow B e size v n xs) (hb : w.grownBy w' (some g)) (hg : v.ownBlock ≠ some g) : w'.ownsRow B e size v n xs := by
  refine ⟨h.1, ?_⟩
  rcases h.2 with h | ⟨b, cap, cur, h1, h2, h3, h4⟩
  · exact .inl h
  · refine .inr ⟨b, cap, cur, h1, h2, (hb.block b (Array.getElem?_eq_some_iff.1 h3).1 ?_).trans h3, h4⟩
    rw [h1] at hg
    simpa [Value.ownBlock] using hg
theorem own_keep {w w' : World} {B e size n b c : Nat} {row : Option Nat} {xs : List Value} (h : w.ownsRow B e size (.slice (some ⟨b, 0, none⟩) n c) n xs) (hg : w.grownBy w' row) (hb : row ≠ some b) : w'.ownsRow B e size (.slice (some ⟨b, 0, none⟩) n c) n xs := by
  refine ⟨h.1, ?_⟩
  rcases h.2 with h | ⟨g, cap, cur, h1, h2, h3, h4⟩
  · exact .inl h
  · have hgb : g = b := by injection h1 with e _ _; injection e with e; injection e with e; exact e.symm
    subst hgb
    exact .inr ⟨g, cap, cur, h1, h2, (hg.block g (Array.getElem?_eq_some_iff.1 h3).1 (fun e => hb e.symm)).trans h3, h4⟩
theorem own_free {w : World} {B e size n g : Nat} {v : Value} {xs : List Value} (h : w.ownsRow B e size v n xs) (hg : g < B) : v.ownBlock ≠ some g := fun e => by have := (h.lt g e).1; omega
theorem own_n {w : World} {B e n : Nat} {v : Value} {xs : List UInt8} (h : w.ownsRow B e 1 v (0 + n) (bv ([] ++ xs))) : w.ownsRow B e 1 v n (bv xs) := by simpa using h
theorem u8_inc (x : UInt8) : IntKind.u8.wrap ((x.toNat : Int) + 1) = ((x + 1).toNat : Int) := by
  rw [IntKind.wrap_u8', UInt8.toNat_add]
  have : (1 : UInt8).toNat = 1 := rfl
  omega
theorem run_cutSl {A : Option Addr} {n c k : Nat} {l : Int} (hl : l = k) (hk : k ≤ n) (W : World) :
    (Instr.slice 23 (.slice A n c) (some (.int .i64 l)) none none).run Tryz.prog W = .ok (.slice (if c = k then A else A.map (·.add k)) (n - k) (c - k)) W := by
  have ee : Tryz.prog.elem 23 = 5 := by kernel_rfl
  have hs : (sizeOf 5).run Tryz.prog W = .ok 1 W := by kernel_rfl
  subst hl
  rw [run_slice_l W 23 A n c (by rw [ee]; exact Tryz.underlying23) .i64 k (by omega) (by omega), ee, hs]
  simp [Result.andThen, sliced]
theorem run_cutSlAt {A : Option Addr} {n c k : Nat} {l : Int} (hl : l = k) (hk : k ≤ n) (W : World) :
    (Instr.sliceAt 23 (.slice A n c) (some (.int .i64 l)) none none).run Tryz.prog W = .ok (.slice (if c = k then A else A.map (·.add k)) (n - k) (c - k)) W := by
  have ee : Tryz.prog.elem 23 = 5 := by kernel_rfl
  rw [run_sliceAt_slice W 23 _ _ _ _ (by rw [ee]; exact Tryz.underlying23)]
  exact run_cutSl hl hk W
theorem run_cutSlLH {A : Option Addr} {n c l' m : Nat} {l h : Int} (hl : l = l') (hh : h = l' + m) (hk : l' + m ≤ c) (W : World) :
    (Instr.slice 23 (.slice A n c) (some (.int .i64 l)) (some (.int .i64 h)) none).run Tryz.prog W = .ok (.slice (if c = l' then A else A.map (·.add l')) m (c - l')) W := by
  have ee : Tryz.prog.elem 23 = 5 := by kernel_rfl
  have hs : (sizeOf 5).run Tryz.prog W = .ok 1 W := by kernel_rfl
  have e1 : h.toNat - l' = m := by omega
  have e2 : l.toNat = l' := by omega
  rw [run_slice_lh W 23 A n c (by rw [ee]; exact Tryz.underlying23) .i64 .i64 l h (by omega) (by omega) (by omega), ee, hs]
  simp only [Result.andThen, sliced, Nat.mul_one, e2, e1]
theorem run_cutSlLHAt {A : Option Addr} {n c l' m : Nat} {l h : Int} (hl : l = l') (hh : h = l' + m) (hk : l' + m ≤ c) (W : World) :
    (Instr.sliceAt 23 (.slice A n c) (some (.int .i64 l)) (some (.int .i64 h)) none).run Tryz.prog W = .ok (.slice (if c = l' then A else A.map (·.add l')) m (c - l')) W := by
  have ee : Tryz.prog.elem 23 = 5 := by kernel_rfl
  rw [run_sliceAt_slice W 23 _ _ _ _ (by rw [ee]; exact Tryz.underlying23)]
  exact run_cutSlLH hl hh hk W
theorem run_cutSlH {A : Option Addr} {n c m : Nat} {h : Int} (hh : h = (m : Nat)) (hk : m ≤ c) (W : World) :
    (Instr.slice 23 (.slice A n c) none (some (.int .i64 h)) none).run Tryz.prog W = .ok (.slice A m c) W := by
  have ee : Tryz.prog.elem 23 = 5 := by kernel_rfl
  have hs : (sizeOf 5).run Tryz.prog W = .ok 1 W := by kernel_rfl
  subst hh
  rw [run_slice_h W 23 A n c (by rw [ee]; exact Tryz.underlying23) .i64 (m : Int) (by omega) (by omega), ee, hs]
  simp only [Result.andThen, sliced, Nat.mul_one, Int.toNat_natCast, Nat.sub_zero]
  have : A.map (·.add 0) = A := by cases A <;> simp [Addr.add]
  rw [this]
  split <;> rfl
theorem run_cutSlHAt {A : Option Addr} {n c m : Nat} {h : Int} (hh : h = (m : Nat)) (hk : m ≤ c) (W : World) :
    (Instr.sliceAt 23 (.slice A n c) none (some (.int .i64 h)) none).run Tryz.prog W = .ok (.slice A m c) W := by
  have ee : Tryz.prog.elem 23 = 5 := by kernel_rfl
  rw [run_sliceAt_slice W 23 _ _ _ _ (by rw [ee]; exact Tryz.underlying23)]
  exact run_cutSlH hh hk W
end Go.Proofs.YtnoflgkjdibblaaGreatDoor
