/-
  Texts put together: OctX, OctS, ReA, ReB, Lv, OctC. No statement is proved here.
-/
import Derived.Test.YtnoflgkjdibblaaGreatDoorWb01
import Derived.RegionTactic
import Derived.ChangeAlike
import Derived.Test.YtnoflgkjdibblaaGreatDoorWb05
import Derived.Test.YtnoflgkjdibblaaGreatDoorWb19
import Derived.Test.YtnoflgkjdibblaaGreatDoorWb13
import Derived.Test.YtnoflgkjdibblaaGreatDoorWb10
import Derived.Recover
import Derived.Laws.Panics
import Derived.Laws.PanicsMore
import Derived.Deep.RegionWith
import Derived.Deep.RegionLaw
import Derived.Deep.RegionHeld3
import Derived.Deep.AppendLies
import Derived.Deep.LoopGhost

/-
  What the calls of package octet do: Fill and Xor.
-/
namespace Go.Proofs.YtnoflgkjdibblaaGreatDoor
set_option linter.unusedSimpArgs false
set_option linter.unusedVariables false
set_option maxRecDepth 1024
open Go.RowKit

theorem fill_step (b : UInt8) (k n : Nat) (h : k < n) : (bv (List.replicate k b ++ List.replicate (n - k) 0)).set k (.int .u8 (b.toNat : Int)) = bv (List.replicate (k + 1) b ++ List.replicate (n - (k + 1)) 0) := by
  obtain ⟨m, hm⟩ : ∃ m, n - k = m + 1 := ⟨n - k - 1, by omega⟩
  have hm' : n - (k + 1) = m := by omega
  rw [bv_set, hm, hm', List.set_append_right _ _ (by simp), List.replicate_succ' (n := k), List.append_assoc]
  simp [List.replicate_succ]

theorem fill_any (b : UInt8) (n : Nat) (w : World) (hn : n ≤ 65536) :
    Calls Tryz.prog 63 #[.int .u8 (b.toNat : Int), .int .i64 (n : Int)] w (New w.heap.size w (List.replicate n b)) := by
  obtain ⟨i0, hi, hz0, hz1, hz2⟩ := info_parts Tryz.infoU8
  go_enter Tryz.func63, Tryz.ntmps63
  go_wp2_with (at_make; refine wpList_make_full _ rfl _ _ 23 rfl w.heap.size 5 i0 (.int .u8 0) 1 Tryz.underlying23 hi hz0 hz1 _ _ _ _ n rfl rfl rfl rfl ?b2 ?b3 (Nat.le_refl _) ?_)
  case b2 => rw [hz2]; omega
  case b3 => unfold maxLen; omega
  intro w0 hown0 hgrow0
  rw [bv_zero] at hown0
  have hb0 : Below w.heap.size w w0 := (Below.refl _ _).grown hgrow0 (Nat.le_refl _) (fun k h => by cases h)
  clear hgrow0
  go_wp2
  go_loopw [17] (fun i wr => ∃ k : Nat, k ≤ n ∧ i = .int .i64 (k : Int) ∧
      wr.ownsRow w.heap.size 5 1 (.slice (some ⟨w.heap.size, 0, none⟩) n n) n (bv (List.replicate k b ++ List.replicate (n - k) 0)) ∧ Below w.heap.size w wr)
    (fun i _ => n - (intOf i).toNat)
  case atStart => exact ⟨0, Nat.zero_le _, rfl, by simpa using hown0, hb0⟩
  case round =>
    obtain ⟨k, hk, rfl, hown, hbel⟩ := hrel
    by_cases hlt : k < n
    · have hc := hown.cellAt k (by omega)
      have hf := hown.frozenAt k
      have hs := hown.stored k
      rw [bv_at _ _ (by simp; omega)] at hc
      go_wp2
      go_roundw
      case rel =>
        exact ⟨k + 1, by omega, by go_num, by rw [← fill_step b k n hlt]; exact (hs _).1, hbel.setCell (Nat.le_refl _) _⟩
      case measure => simp [intOf]; omega
    · obtain rfl : k = n := by omega
      go_wp2
      go_ret
      exact ⟨_, _, _, rfl, by simpa using hown, hbel⟩

end Go.Proofs.YtnoflgkjdibblaaGreatDoor

/-
  What the landed octet.Same does. No statement is proved here.
-/
namespace Go.Proofs.YtnoflgkjdibblaaGreatDoor
set_option linter.unusedSimpArgs false
set_option linter.unusedVariables false
set_option maxRecDepth 1024
open Go.RowKit

/-- 'string(b)' of bytes that read. -/
theorem Rd.convert {w : World} {A : Option Addr} {n c : Nat} {xs : List UInt8} (h : Rd w A n c xs) :
    (convert 23 9 (.slice A n c)).run Tryz.prog w = .ok (.string ⟨xs.toArray⟩) w := by
  rcases Nat.eq_zero_or_pos n with hn | hn
  · subst hn
    obtain rfl : xs = [] := List.eq_nil_of_length_eq_zero h.len
    rw [run_convert_bytes_string w 23 9 5 _ 0 c Tryz.underlying23 Tryz.underlying5 Tryz.underlying9]
    cases A <;> simp [Conv.bytesToString, loadCells]
    all_goals rfl
  · obtain ⟨b, o, rfl, _, hc⟩ := h.at_ hn
    have e := run_convert_bytes_arg (P := Tryz.prog) w 23 5 Tryz.underlying23 Tryz.underlying5 b o n c (xs.map fun x => (x.toNat : Int)) (by simp [h.len])
      (fun i hi => by
        have hl : i < xs.length := by have := h.len; omega
        rw [hc i hi]; simp [List.getD, hl]) 9 Tryz.underlying9
    rw [e]
    have : strOfNums (xs.map fun x => (x.toNat : Int)) = ⟨xs.toArray⟩ := by
      simp [strOfNums, Function.comp_def]
    rw [this]

theorem equal_any (A A' : Option Addr) (n c n' c' : Nat) (xs ys : List UInt8) (w : World) (h : Rd w A n c xs) (h' : Rd w A' n' c' ys) :
    Calls Tryz.prog 106 #[.slice A n c, .slice A' n' c'] w fun e w' => e = .returned (.bool (sameB xs ys)) ∧ w = w' := by
  have c1 := h.convert
  have c2 := h'.convert
  go_enter Tryz.func106, Tryz.ntmps106
  go_wp2
  go_ret
  exact ⟨rfl, rfl⟩

theorem same_any (A A' : Option Addr) (n c n' c' : Nat) (xs ys : List UInt8) (w : World) (h : Rd w A n c xs) (h' : Rd w A' n' c' ys) :
    Calls Tryz.prog 77 #[.slice A n c, .slice A' n' c'] w fun e w' => e = .returned (.bool (sameB xs ys)) ∧ w = w' := by
  go_enter Tryz.func77, Tryz.ntmps77
  go_wp2_with (go_at_call 106; refine (equal_any A A' n c n' c' xs ys _ h h').mono ?_; rintro e w' ⟨rfl, rfl⟩)
  go_ret
  exact ⟨rfl, rfl⟩
end Go.Proofs.YtnoflgkjdibblaaGreatDoor

/-
  The landed counter: whether it may be, its mark, numbers as bytes; where it lies. No statement is proved here.
-/
namespace Go.Proofs.YtnoflgkjdibblaaGreatDoor.S21
set_option linter.unusedSimpArgs false
set_option linter.unusedVariables false
set_option maxRecDepth 8192
open Go.RowKit S19 S20

/-- A counter and its head, as the landed program holds them together. -/
abbrev ncA (x : Cn) (A : Option Addr) (n c : Nat) : Array Value := #[.int .u64 (x.tot : Int), .int .u64 (x.bat : Int), .int .u64 (x.res : Int), .int .u64 (x.nxt : Int), .bool x.gone, .slice A n c]
set_option maxHeartbeats 4000000 in
theorem lmay_any (x : Cn) (A : Option Addr) (n c : Nat) (w : World) : Calls Tryz.prog 33 #[.agg (ncA x A n c)] w fun e w' => e = .returned (.bool (decide (x.May n))) ∧ Below w.heap.size w w' := by
  obtain ⟨t, b, r, nx, gn⟩ := x
  obtain ⟨m, hm⟩ : ∃ m, m = decide (Cn.May ⟨t, b, r, nx, gn⟩ n) := ⟨_, rfl⟩
  rw [← hm]
  unfold Cn.May at hm
  simp only at hm
  obtain ⟨w1, hw1⟩ : ∃ w1, w1 = w.alloc (.cells #[.int .u64 (t : Int), .int .u64 (b : Int), .int .u64 (r : Int), .int .u64 (nx : Int), .bool gn, .slice A n c] 90) := ⟨_, rfl⟩
  have hbel : Below w.heap.size w w1 := by rw [hw1]; exact (Below.refl _ _).alloc (Nat.le_refl _) _
  have HB := Lib.hid hbel
  have HW := Lib.hid hw1
  clear hbel hw1
  have H : (m = true ∧ (n : Int) ≤ 200 ∧ (1 : Int) ≤ (t : Int) ∧ (t : Int) ≤ 1152921504606846976 ∧ (1 : Int) ≤ (b : Int) ∧ (b : Int) ≤ 65536 ∧ (r : Int) ≤ (t : Int))
      ∨ (m = false ∧ ¬ (n : Int) ≤ 200) ∨ (m = false ∧ (n : Int) ≤ 200 ∧ ¬ (1 : Int) ≤ (t : Int)) ∨ (m = false ∧ (n : Int) ≤ 200 ∧ (1 : Int) ≤ (t : Int) ∧ ¬ (t : Int) ≤ 1152921504606846976)
      ∨ (m = false ∧ (n : Int) ≤ 200 ∧ (1 : Int) ≤ (t : Int) ∧ (t : Int) ≤ 1152921504606846976 ∧ ¬ (1 : Int) ≤ (b : Int))
      ∨ (m = false ∧ (n : Int) ≤ 200 ∧ (1 : Int) ≤ (t : Int) ∧ (t : Int) ≤ 1152921504606846976 ∧ (1 : Int) ≤ (b : Int) ∧ ¬ (b : Int) ≤ 65536)
      ∨ (m = false ∧ (n : Int) ≤ 200 ∧ (1 : Int) ≤ (t : Int) ∧ (t : Int) ≤ 1152921504606846976 ∧ (1 : Int) ≤ (b : Int) ∧ (b : Int) ≤ 65536 ∧ ¬ (r : Int) ≤ (t : Int)) := by
    by_cases q1 : (n : Int) ≤ 200
    · by_cases q2 : (1 : Int) ≤ (t : Int)
      · by_cases q3 : (t : Int) ≤ 1152921504606846976
        · by_cases q4 : (1 : Int) ≤ (b : Int)
          · by_cases q5 : (b : Int) ≤ 65536
            · by_cases q6 : (r : Int) ≤ (t : Int)
              · exact .inl ⟨by rw [hm]; exact decide_eq_true (by omega), q1, q2, q3, q4, q5, q6⟩
              · exact .inr (.inr (.inr (.inr (.inr (.inr ⟨by rw [hm]; exact decide_eq_false (by omega), q1, q2, q3, q4, q5, q6⟩)))))
            · exact .inr (.inr (.inr (.inr (.inr (.inl ⟨by rw [hm]; exact decide_eq_false (by omega), q1, q2, q3, q4, q5⟩)))))
          · exact .inr (.inr (.inr (.inr (.inl ⟨by rw [hm]; exact decide_eq_false (by omega), q1, q2, q3, q4⟩))))
        · exact .inr (.inr (.inr (.inl ⟨by rw [hm]; exact decide_eq_false (by omega), q1, q2, q3⟩)))
      · exact .inr (.inr (.inl ⟨by rw [hm]; exact decide_eq_false (by omega), q1, q2⟩))
    · exact .inr (.inl ⟨by rw [hm]; exact decide_eq_false (by omega), q1⟩)
  clear hm
  rcases H with ⟨rfl, q1, q2, q3, q4, q5, q6⟩ | ⟨rfl, q1⟩ | ⟨rfl, q1, q2⟩ | ⟨rfl, q1, q2, q3⟩ | ⟨rfl, q1, q2, q3, q4⟩ | ⟨rfl, q1, q2, q3, q4, q5⟩ | ⟨rfl, q1, q2, q3, q4, q5, q6⟩
  all_goals
    go_enter Tryz.func33, Tryz.ntmps33
    go_wp2
    go_ret
    rw [← HW.out]
    exact ⟨rfl, HB.out⟩
set_option maxHeartbeats 2000000 in
theorem lmark_any (x : Cn) (A : Option Addr) (n c : Nat) (w : World) : Calls Tryz.prog 64 #[.agg (ncA x A n c)] w fun e w' => e = .returned (.int .u8 (x.flag.toNat : Int)) ∧ Below w.heap.size w w' := by
  obtain ⟨t, b, r, nx, gn⟩ := x
  obtain ⟨w1, hw1⟩ : ∃ w1, w1 = w.alloc (.cells #[.int .u64 (t : Int), .int .u64 (b : Int), .int .u64 (r : Int), .int .u64 (nx : Int), .bool gn, .slice A n c] 90) := ⟨_, rfl⟩
  have hbel : Below w.heap.size w w1 := by rw [hw1]; exact (Below.refl _ _).alloc (Nat.le_refl _) _
  have HB := Lib.hid hbel
  have HW := Lib.hid hw1
  clear hbel hw1
  cases gn
  · rw [show ((Cn.flag ⟨t, b, r, nx, false⟩).toNat : Int) = 0 from rfl]
    go_enter Tryz.func64, Tryz.ntmps64
    go_wp2
    go_ret
    rw [← HW.out]
    exact ⟨rfl, HB.out⟩
  · rw [show ((Cn.flag ⟨t, b, r, nx, true⟩).toNat : Int) = 1 from rfl]
    go_enter Tryz.func64, Tryz.ntmps64
    go_wp2
    go_ret
    rw [← HW.out]
    exact ⟨rfl, HB.out⟩
theorem lnumber_any (v : Nat) (hv : v < 18446744073709551616) (w : World) : Calls Tryz.prog 62 #[.int .u64 (v : Int)] w (New w.heap.size w (putL v 8)) := by
  have P := Lib.hid (show Calls Tryz.prog 86 #[.int .u64 (v : Int), .int .i64 8] w (New w.heap.size w (putL v 8)) from put_any v 8 w (by omega) hv)
  clear hv
  go_enter Tryz.func62, Tryz.ntmps62
  go_wp2_with (go_at_call 86; ((with_reducible refine P.out.mono ?_); rintro e w1 ⟨A1, n1, c1, rfl, o1, b1⟩; have O1 := Lib.hid o1; have B1 := Lib.hid b1; clear o1 b1))
  go_ret
  exact ⟨A1, n1, c1, rfl, O1.out, B1.out⟩
theorem ltold_any (A : Option Addr) (n c : Nat) (xs : List UInt8) (w : World) (hn : n ≤ 8) (h : Rd w A n c xs) : Calls Tryz.prog 105 #[.slice A n c] w fun e w' => e = .returned (.int .u64 (getL xs : Int)) ∧ w = w' := by
  obtain ⟨g, hg⟩ : ∃ g, g = getL xs := ⟨_, rfl⟩
  have P := Lib.hid (show Calls Tryz.prog 109 #[.slice A n c] w fun e w' => e = .returned (.tuple #[.int .u64 (g : Int), .bool true]) ∧ w = w' by rw [hg]; exact get_any A n c xs w hn h)
  rw [← hg]
  clear hn h hg
  go_enter Tryz.func105, Tryz.ntmps105
  go_wp2_with (go_at_call 109; ((with_reducible refine P.out.mono ?_); rintro e w1 ⟨rfl, rfl⟩))
  go_ret
  exact ⟨rfl, rfl⟩
theorem RdBs.built5To (w : World) (b : Nat) (hb : w.heap.size = b) (T : TypeId) {A1 A2 A3 A4 A5 : Option Addr} {n1 n2 n3 n4 n5 c1 c2 c3 c4 c5 : Nat} {x1 x2 x3 x4 x5 : List UInt8} (h1 : Rd w A1 n1 c1 x1) (h2 : Rd w A2 n2 c2 x2) (h3 : Rd w A3 n3 c3 x3) (h4 : Rd w A4 n4 c4 x4) (h5 : Rd w A5 n5 c5 x5) :
    RdBs (w.alloc (.cells #[.slice A1 n1 c1, .slice A2 n2 c2, .slice A3 n3 c3, .slice A4 n4 c4, .slice A5 n5 c5] T)) (some ⟨b, 0, none⟩) 5 5 [x1, x2, x3, x4, x5] := by
  subst hb
  exact RdBs.built5 w T h1 h2 h3 h4 h5
theorem New.bel {B : Nat} {w w' : World} {xs : List UInt8} {e : Ending} (h : New B w xs e w') : Below B w w' := by
  obtain ⟨_, _, _, _, _, hb⟩ := h
  exact hb
/-- Where the landed counter lies. -/
structure Ki (N : Nat) (w : World) (cc s : Nat) (x : Cn) (h : List UInt8) (K : Nat → Prop) : Prop where
  ex : ∃ A c, Bk w cc 95 #[.int .u64 (x.tot : Int), .int .u64 (x.bat : Int), .int .u64 (x.res : Int), .int .u64 (x.nxt : Int), .bool x.gone, .slice A h.length c, .pointer (some ⟨s, 0, none⟩)] ∧ Rd w A h.length c h ∧ ∀ a, 0 < h.length → A = some a → K a.block ∧ a.block ≠ cc
  at_ : K cc
  few : h.length ≤ 100000
  lt : ∀ b, K b → N ≤ b ∧ b < w.heap.size
section
variable {N : Nat} {w w' : World} {cc s : Nat} {x y : Cn} {h : List UInt8} {K : Nat → Prop}
theorem Ki.keep (r : Ki N w cc s x h K) (hs : w.heap.size ≤ w'.heap.size) (hk : ∀ b, K b → b < w.heap.size → w'.heap[b]? = w.heap[b]?) : Ki N w' cc s x h K := by
  obtain ⟨A, c, h1, h2, h3⟩ := r.ex
  refine ⟨⟨A, c, (hk cc r.at_ (r.lt cc r.at_).2).trans h1, ⟨h2.len, h2.cap, h2.max, h2.nil, fun hn => ?_⟩, h3⟩, r.at_, r.few, fun b hb => ⟨(r.lt b hb).1, Nat.lt_of_lt_of_le (r.lt b hb).2 hs⟩⟩
  obtain ⟨b, off, rfl, hl, hc⟩ := h2.at_ hn
  exact ⟨b, off, rfl, Nat.lt_of_lt_of_le hl hs, fun j hj => (World.cell?_of_block (a := ⟨b, off + j, none⟩) (hk b (h3 _ hn rfl).1 hl)).trans (hc j hj)⟩
theorem Ki.grow (r : Ki N w cc s x h K) (hb : Below w.heap.size w w') : Ki N w' cc s x h K := r.keep hb.size fun b _ hl => hb.block b hl
/-- The counter's own cells have turned. -/
theorem Ki.set (r : Ki N w cc s x h K) (hs : w.heap.size ≤ w'.heap.size) (hk : ∀ b, b ≠ cc → b < w.heap.size → w'.heap[b]? = w.heap[b]?) (hc : ∀ A c, Bk w cc 95 #[.int .u64 (x.tot : Int), .int .u64 (x.bat : Int), .int .u64 (x.res : Int), .int .u64 (x.nxt : Int), .bool x.gone, .slice A h.length c, .pointer (some ⟨s, 0, none⟩)] → Bk w' cc 95 #[.int .u64 (y.tot : Int), .int .u64 (y.bat : Int), .int .u64 (y.res : Int), .int .u64 (y.nxt : Int), .bool y.gone, .slice A h.length c, .pointer (some ⟨s, 0, none⟩)]) : Ki N w' cc s y h K := by
  obtain ⟨A, c, h1, h2, h3⟩ := r.ex
  refine ⟨⟨A, c, hc A c h1, ⟨h2.len, h2.cap, h2.max, h2.nil, fun hn => ?_⟩, h3⟩, r.at_, r.few, fun b hb => ⟨(r.lt b hb).1, Nat.lt_of_lt_of_le (r.lt b hb).2 hs⟩⟩
  obtain ⟨b, off, rfl, hl, hc⟩ := h2.at_ hn
  exact ⟨b, off, rfl, Nat.lt_of_lt_of_le hl hs, fun j hj => (World.cell?_of_block (a := ⟨b, off + j, none⟩) (hk b (h3 _ hn rfl).2 hl)).trans (hc j hj)⟩
end
/-- The counter's own cells are written over. -/
abbrev st6 (W : World) (cc : Nat) (y : Cn) (A : Option Addr) (n c : Nat) : World := (((((W.setCell ⟨cc, 0, none⟩ (.int .u64 (y.tot : Int))).setCell ⟨cc, 1, none⟩ (.int .u64 (y.bat : Int))).setCell ⟨cc, 2, none⟩ (.int .u64 (y.res : Int))).setCell ⟨cc, 3, none⟩ (.int .u64 (y.nxt : Int))).setCell ⟨cc, 4, none⟩ (.bool y.gone)).setCell ⟨cc, 5, none⟩ (.slice A n c)
theorem st6_far (W : World) (cc : Nat) (y : Cn) (A : Option Addr) (n c b : Nat) (hb : b ≠ cc) : (st6 W cc y A n c).heap[b]? = W.heap[b]? :=
  (Below.heap_setCell _ ⟨cc, 5, none⟩ _ b hb).trans ((Below.heap_setCell _ ⟨cc, 4, none⟩ _ b hb).trans ((Below.heap_setCell _ ⟨cc, 3, none⟩ _ b hb).trans ((Below.heap_setCell _ ⟨cc, 2, none⟩ _ b hb).trans ((Below.heap_setCell _ ⟨cc, 1, none⟩ _ b hb).trans (Below.heap_setCell _ ⟨cc, 0, none⟩ _ b hb)))))
theorem poke_cc {N cc : Nat} (hN : N ≤ cc) (W : World) (i : Nat) (u : Value) : Mv N (fun b => b = cc) W (W.setCell ⟨cc, i, none⟩ u) := ⟨(Below.refl _ _).setCell (show N ≤ (⟨cc, i, none⟩ : Addr).block from hN) _, fun b _ h => Below.heap_setCell _ ⟨cc, i, none⟩ _ b h⟩
theorem st6_mv {N cc : Nat} (hN : N ≤ cc) (W : World) (y : Cn) (A : Option Addr) (n c : Nat) : Mv N (fun b => b = cc) W (st6 W cc y A n c) :=
  (((((poke_cc hN W 0 _).trans (poke_cc hN _ 1 _) fun b hb => .inl hb).trans (poke_cc hN _ 2 _) fun b hb => .inl hb).trans (poke_cc hN _ 3 _) fun b hb => .inl hb).trans (poke_cc hN _ 4 _) fun b hb => .inl hb).trans (poke_cc hN _ 5 _) fun b hb => .inl hb
end Go.Proofs.YtnoflgkjdibblaaGreatDoor.S21

/-
  The landed counter as bytes. No statement is proved here.
-/
namespace Go.Proofs.YtnoflgkjdibblaaGreatDoor.S21
set_option linter.unusedSimpArgs false
set_option linter.unusedVariables false
set_option maxRecDepth 8192
open Go.RowKit S19 S20

set_option maxHeartbeats 8000000 in
theorem lbytes_any (x : Cn) (hx : x.Fit) (A : Option Addr) (n c : Nat) (h : List UInt8) (w : World) (hr : Rd w A n c h) (hn : n ≤ 100000) : Calls Tryz.prog 36 #[.agg (ncA x A n c)] w (New w.heap.size w (x.row h)) := by
  have hrl := Cn.row_len x h
  have hl := hr.len
  obtain ⟨row, hrow⟩ : ∃ v, v = x.row h := ⟨_, rfl⟩
  obtain ⟨f, hf⟩ : ∃ v, v = x.flag := ⟨_, rfl⟩
  have hfl : [putL x.tot 8, putL x.bat 8, putL x.res 8, [f], h].flatten = row := by rw [hrow, hf]; simp [Cn.row]
  have MK := Lib.hid (show ∀ X, Calls Tryz.prog 64 #[.agg (ncA x A n c)] X fun e w' => e = .returned (.int .u8 (f.toNat : Int)) ∧ Below X.heap.size X w' from fun X => by rw [hf]; exact lmark_any x A n c X)
  rw [← hrow] at hrl ⊢
  obtain ⟨t, b, r, nx, gn⟩ := x
  obtain ⟨x1, hx1⟩ : ∃ x1, x1 = putL t 8 := ⟨_, rfl⟩
  obtain ⟨x2, hx2⟩ : ∃ x2, x2 = putL b 8 := ⟨_, rfl⟩
  obtain ⟨x3, hx3⟩ : ∃ x3, x3 = putL r 8 := ⟨_, rfl⟩
  have FL := Lib.hid (show [x1, x2, x3, [f], h].flatten = row by rw [hx1, hx2, hx3]; exact hfl)
  have RL := Lib.hid (show row.length ≤ 140737488355328 by omega)
  have P1 := Lib.hid (show ∀ X, Calls Tryz.prog 62 #[.int .u64 (t : Int)] X (New X.heap.size X x1) from fun X => by rw [hx1]; exact lnumber_any t hx.tot X)
  have P2 := Lib.hid (show ∀ X, Calls Tryz.prog 62 #[.int .u64 (b : Int)] X (New X.heap.size X x2) from fun X => by rw [hx2]; exact lnumber_any b hx.bat X)
  have P3 := Lib.hid (show ∀ X, Calls Tryz.prog 62 #[.int .u64 (r : Int)] X (New X.heap.size X x3) from fun X => by rw [hx3]; exact lnumber_any r hx.res X)
  have FI := Lib.hid (show ∀ X, Calls Tryz.prog 63 #[.int .u8 (f.toNat : Int), .int .i64 1] X (New X.heap.size X [f]) from fun X => fill_any f 1 X (by omega))
  replace MK := Lib.hid (show ∀ X, Calls Tryz.prog 64 #[.agg #[.int .u64 (t : Int), .int .u64 (b : Int), .int .u64 (r : Int), .int .u64 (nx : Int), .bool gn, .slice A n c]] X fun e w' => e = .returned (.int .u8 (f.toNat : Int)) ∧ Below X.heap.size X w' from MK.out)
  obtain ⟨g, hg⟩ : ∃ g, w.heap.size = g := ⟨_, rfl⟩
  obtain ⟨w0, hw0⟩ : ∃ w0, w.alloc (.cells #[.int .u64 (t : Int), .int .u64 (b : Int), .int .u64 (r : Int), .int .u64 (nx : Int), .bool gn, .slice A n c] 90) = w0 := ⟨_, rfl⟩
  have K0 := Lib.hid (show Bk w0 g 90 #[.int .u64 (t : Int), .int .u64 (b : Int), .int .u64 (r : Int), .int .u64 (nx : Int), .bool gn, .slice A n c] by rw [← hw0]; exact Bk.newAt _ _ _ _ hg)
  have B0 := Lib.hid (show Below w.heap.size w w0 by rw [← hw0]; exact (Below.refl _ _).alloc (Nat.le_refl _) _)
  have HR := Lib.hid hr
  have HG := Lib.hid hg
  have HW0 := Lib.hid hw0
  have GD := Lib.hid (Below.refl w0.heap.size w0).drew
  have KX := Lib.hid (show ∀ X, Below w0.heap.size w0 X → X.cell? ⟨g, 0, none⟩ = some (.int .u64 (t : Int)) ∧ X.cell? ⟨g, 1, none⟩ = some (.int .u64 (b : Int)) ∧ X.cell? ⟨g, 2, none⟩ = some (.int .u64 (r : Int)) ∧ X.cell? ⟨g, 3, none⟩ = some (.int .u64 (nx : Int)) ∧ X.cell? ⟨g, 4, none⟩ = some (.bool gn) ∧ X.cell? ⟨g, 5, none⟩ = some (.slice A n c) from fun X hX => by
    have q := K0.out.below hX K0.out.lt
    exact ⟨q.cell 0, q.cell 1, q.cell 2, q.cell 3, q.cell 4, q.cell 5⟩)
  clear hx hx1 hx2 hx3 hr hrl hl hrow hf hfl hn hg hw0
  go_enter Tryz.func36, Tryz.ntmps36
  go_upto_region 1 with (fail)
  rw [HW0.out, HG.out]
  (go_region_held3 (fun X => X.cell? ⟨g, 0, none⟩ = some (.int .u64 (t : Int)) ∧ X.cell? ⟨g, 1, none⟩ = some (.int .u64 (b : Int)) ∧ X.cell? ⟨g, 2, none⟩ = some (.int .u64 (r : Int)) ∧ X.cell? ⟨g, 3, none⟩ = some (.int .u64 (nx : Int)) ∧ X.cell? ⟨g, 4, none⟩ = some (.bool gn) ∧ X.cell? ⟨g, 5, none⟩ = some (.slice A n c)) (first
    | exact KX.out _ B6.out
    | exact KX.out _ (B5.out.alloc B5.out.size _)
    | exact KX.out _ B5.out
    | exact KX.out _ B4.out
    | exact KX.out _ B3.out
    | exact KX.out _ B2.out
    | exact KX.out _ B1.out
    | exact KX.out _ GD.out) (first
    | (go_at_call 62; ((with_reducible refine (P1.out _).mono ?_); rintro e w1 ⟨A1, n1, c1, rfl, o1, b1⟩; have R1 := Lib.hid (Rd.own o1); have B1 := Lib.hid (GD.out.trans (b1.mono GD.out.size)); clear o1 b1))
    | (go_at_call 62; ((with_reducible refine (P2.out _).mono ?_); rintro e w2 ⟨A2, n2, c2, rfl, o2, b2⟩; have R2 := Lib.hid (Rd.own o2); have R12 := Lib.hid (R1.out.below b2); have B2 := Lib.hid (B1.out.trans (b2.mono B1.out.size)); clear o2 b2 R1))
    | (go_at_call 62; ((with_reducible refine (P3.out _).mono ?_); rintro e w3 ⟨A3, n3, c3, rfl, o3, b3⟩; have R3 := Lib.hid (Rd.own o3); have R13 := Lib.hid (R12.out.below b3); have R23 := Lib.hid (R2.out.below b3); have B3 := Lib.hid (B2.out.trans (b3.mono B2.out.size)); clear o3 b3 R12 R2))
    | (go_at_call 64; ((with_reducible refine (MK.out _).mono ?_); rintro e w4 ⟨rfl, b4⟩; have R14 := Lib.hid (R13.out.below b4); have R24 := Lib.hid (R23.out.below b4); have R34 := Lib.hid (R3.out.below b4); have B4 := Lib.hid (B3.out.trans (b4.mono B3.out.size)); clear b4 R13 R23 R3))
    | (go_at_call 63; ((with_reducible refine (FI.out _).mono ?_); rintro e w5 ⟨A5, n5, c5, rfl, o5, b5⟩; have R5 := Lib.hid (Rd.own o5); have R15 := Lib.hid (R14.out.below b5); have R25 := Lib.hid (R24.out.below b5); have R35 := Lib.hid (R34.out.below b5); have B5 := Lib.hid (B4.out.trans (b5.mono B4.out.size)); clear o5 b5 R14 R24 R34))
    | (go_at_call 32; ((refine (cat_any _ 5 5 [x1, x2, x3, [f], h] _ (RdBs.built5To w5 _ rfl _ R15.out R25.out R35.out R5.out (HR.out.below (B0.out.trans (B5.out.mono B0.out.size)))) (by rw [FL.out]; exact RL.out)).mono ?_); intro e w6 h6; rw [FL.out] at h6; have BW5 := B0.out.trans (B5.out.mono B0.out.size); have h6' := New.from (B5.out.alloc B5.out.size _) h6; have B6 := Lib.hid (New.bel h6'); obtain ⟨A6, n6, c6, rfl, o6, b6⟩ := New.from (BW5.alloc BW5.size _) h6; have O6 := Lib.hid o6; have BW6 := Lib.hid b6; clear o6 b6 h6 h6' BW5))
    | fail))
  go_wp2_with (fail)
  go_ret
  exact ⟨A6, n6, c6, rfl, O6.out, BW6.out⟩
end Go.Proofs.YtnoflgkjdibblaaGreatDoor.S21

/-
  What the landed package leave does: Need and Told. No statement is proved here.
-/
namespace Go.Proofs.YtnoflgkjdibblaaGreatDoor.LV
set_option linter.unusedSimpArgs false
set_option linter.unusedVariables false
open Go.RowKit

/-- What a call leaves by: the code k. -/
def wrg (k : Int) : PanicEntry := { v := .iface 114 (.agg #[.int .i64 k]), recovered := false }
theorem told_nil (w : World) : Calls Tryz.prog 29 #[.nilIface] w fun e w' => e = .returned (.int .i64 0) ∧ w = w' := by
  go_enter Tryz.func29, Tryz.ntmps29
  go_wp2
  go_ret
  exact ⟨rfl, rfl⟩
theorem told_wrong (k : Int) (w : World) : Calls Tryz.prog 29 #[.iface 114 (.agg #[.int .i64 k])] w fun e w' => e = .returned (.int .i64 k) ∧ Below w.heap.size w w' := by
  have ta : ∀ w, (Instr.typeAssert (.iface 114 (.agg #[.int .i64 k])) 20 114 true).run Tryz.prog w = .ok (.tuple #[.agg #[.int .i64 k], .bool true]) w := fun _ => by kernel_rfl
  go_enter Tryz.func29, Tryz.ntmps29
  go_wp2
  go_ret
  exact ⟨rfl, (Below.refl _ _).alloc (Nat.le_refl _) _⟩
theorem need_yes (k : Int) (w : World) : Calls Tryz.prog 30 #[.bool true, .int .i64 k] w fun e w' => e = .returned (.tuple #[]) ∧ w = w' := by
  go_enter Tryz.func30, Tryz.ntmps30
  go_wp2
  go_end0
  exact ⟨rfl, rfl⟩
theorem need_no (k : Int) (w : World) : Calls Tryz.prog 30 #[.bool false, .int .i64 k] w fun e w' => e = .panicked [wrg k] ∧ w = w' := by
  go_enter Tryz.func30, Tryz.ntmps30
  go_wp2
  exact ⟨rfl, rfl, rfl⟩
end Go.Proofs.YtnoflgkjdibblaaGreatDoor.LV

/-
  What the landed octet.Cut does: bytes in parts, each in new memory, or the code of what is wrong. No statement is proved here.
-/
namespace Go.Proofs.YtnoflgkjdibblaaGreatDoor.CT
set_option linter.unusedSimpArgs false
set_option linter.unusedVariables false
set_option maxRecDepth 4096
open Go.RowKit

theorem first_ok (A : Option Addr) (m c n : Nat) (xs : List UInt8) (w : World) (h : Rd w A m c xs) (hn : n ≤ m) (hm : n ≤ 140737488355328) :
    Calls Tryz.prog 123 #[.slice A m c, .int .i64 (n : Int)] w (New w.heap.size w (xs.take n)) := by
  have hcap := h.cap
  have hmax := h.max
  unfold maxLen at hmax
  have hr := RdBs.built1 w 23 (h.take hn)
  have ht : [xs.take n].flatten.length ≤ 140737488355328 := by simp; omega
  have HY := Lib.hid (fun k X => LV.need_yes k X)
  have q1 : decide (n ≤ m) = true := by simpa using hn
  go_enter Tryz.func123, Tryz.ntmps123
  go_wp2_with (first
    | (go_at_call 30; ((with_reducible refine (HY.out _ _).mono ?_); rintro e w1 ⟨rfl, rfl⟩))
    | (go_at_call 32; refine (cat_any _ 1 1 _ _ hr ht).mono ?_; rintro e w' ⟨A1, n1, c1, rfl, ho, hb⟩))
  go_ret
  exact New.from ((Below.refl _ _).alloc (Nat.le_refl _) _) ⟨A1, n1, c1, rfl, by simpa using ho, hb⟩
theorem first_neg (A : Option Addr) (m c : Nat) (n : Int) (w : World) (hn : n < 0) :
    Calls Tryz.prog 123 #[.slice A m c, .int .i64 n] w fun e w' => e = .panicked [LV.wrg 1] ∧ w = w' := by
  have HN := Lib.hid (fun k X => LV.need_no k X)
  have q1 : decide (0 ≤ n) = false := by simpa using hn
  clear hn
  go_enter Tryz.func123, Tryz.ntmps123
  go_wp2_with (go_at_call 30; ((with_reducible refine (HN.out _ _).mono ?_); rintro e w1 ⟨rfl, rfl⟩))
  exact ⟨rfl, rfl, rfl⟩
theorem first_short (A : Option Addr) (m c n : Nat) (w : World) (hn : m < n) (hm : n ≤ maxLen) :
    Calls Tryz.prog 123 #[.slice A m c, .int .i64 n] w fun e w' => e = .panicked [LV.wrg 2] ∧ w = w' := by
  unfold maxLen at hm
  have HY := Lib.hid (fun X => LV.need_yes 1 X)
  have HN := Lib.hid (fun X => LV.need_no 2 X)
  have q1 : decide (n ≤ m) = false := by simpa using hn
  clear hn
  go_enter Tryz.func123, Tryz.ntmps123
  go_wp2_with (first
    | (go_at_call 30; ((with_reducible refine (HY.out _).mono ?_); rintro e w1 ⟨rfl, rfl⟩))
    | (go_at_call 30; ((with_reducible refine (HN.out _).mono ?_); rintro e w1 ⟨rfl, rfl⟩)))
  exact ⟨rfl, rfl, rfl⟩
theorem cut_caught (q : Nat) (y k : Int) (older : List PanicEntry) (w : World) (hq : Bk w q 29 #[.int .i64 y]) :
    CallsD Tryz.prog 122 #[.pointer (some ⟨q, 0, none⟩)] (.panicking (LV.wrg k :: older)) w fun e u' w' =>
      e = .returned (.tuple #[]) ∧ u' = .panicking ({ v := .iface 114 (.agg #[.int .i64 k]), recovered := true } :: older) ∧ ∃ w1, Below w.heap.size w w1 ∧ w' = w1.setCell ⟨q, 0, none⟩ (.int .i64 k) := by
  have c1 := cell_of_one hq
  have f1 := free_of_one hq
  refine callsD_of_wpS Tryz.func122 rfl fun c₀ cs hu => ?_
  apply wpS_region
  simp [wpOpsS, go_sem, recoverD, hu, LV.wrg, Tryz.ntmps122, Exit.thenS, Array.replicate, List.replicate]
  refine (LV.told_wrong k w).mono ?_
  rintro e w' ⟨rfl, hb⟩
  have c2 := cell_of_one (hq.below hb hq.lt)
  have f2 := free_of_one (hq.below hb hq.lt)
  simp [go_sem, c2, f2, Oper.upon, bodyPostS, results, Tryz.results122]
  exact ⟨w', hb, rfl⟩
theorem cut_idle (q : Nat) (y : Int) (w : World) (hq : Bk w q 29 #[.int .i64 y]) :
    CallsD Tryz.prog 122 #[.pointer (some ⟨q, 0, none⟩)] .returning w fun e u' w' => e = .returned (.tuple #[]) ∧ u' = .returning ∧ w' = w.setCell ⟨q, 0, none⟩ (.int .i64 0) := by
  have c1 := cell_of_one hq
  have f1 := free_of_one hq
  refine callsD_of_wpS Tryz.func122 rfl fun c₀ cs hu => ?_
  apply wpS_region
  simp [wpOpsS, go_sem, recoverD, hu, Tryz.ntmps122, Exit.thenS, Array.replicate, List.replicate]
  refine (LV.told_nil w).mono ?_
  rintro e w' ⟨rfl, rfl⟩
  simp [go_sem, c1, f1, Oper.upon, bodyPostS, results, Tryz.results122]
  cases c₀
  cases hu
  rfl

theorem infoBytesC : (Tryz.prog.info? 23).map (fun i => (i.zero, i.size, i.bytes)) = some (some (.slice none 0 0), 1, 24) := by kernel_rfl

theorem own_below {w w' : World} {B e size n : Nat} {v : Value} {xs : List Value} (h : w.ownsRow B e size v n xs) (hb : Below w.heap.size w w') : w'.ownsRow B e size v n xs :=
  h.kept (row := none) ⟨hb.os, hb.tape, hb.output, hb.size, fun i hi _ => hb.block i hi⟩ (by cases hh : v.ownBlock <;> simp)
theorem block_below {w w' : World} {p : Nat} {o : Obj} (h : w.heap[p]? = some o) (hb : Below w.heap.size w w') : w'.heap[p]? = some o :=
  (hb.block p (Array.getElem?_eq_some_iff.1 h).1).trans h
theorem block_alloc {w : World} {p : Nat} {x : Obj} (h : w.heap[p]? = some x) (o : Obj) : (w.alloc o).heap[p]? = some x :=
  (Below.heap_alloc w o p (Array.getElem?_eq_some_iff.1 h).1).trans h
theorem block_grown {w w' : World} {p : Nat} {o : Obj} {row : Option Nat} (h : w.heap[p]? = some o) (hg : w.grownBy w' row) (hr : row ≠ some p) : w'.heap[p]? = some o :=
  (hg.block p (Array.getElem?_eq_some_iff.1 h).1 (fun e => hr e.symm)).trans h
/-- A slice of ints reads as ss. -/
structure RdI (w : World) (A : Option Addr) (n c : Nat) (ss : List Int) : Prop where
  len : ss.length = n
  cap : n ≤ c
  max : c ≤ maxLen
  rng : ∀ x ∈ ss, x ≤ (maxLen : Nat)
  at_ : 0 < n → ∃ b off, A = some ⟨b, off, none⟩ ∧ b < w.heap.size ∧ ∀ j, j < n → w.cell? ⟨b, off + j, none⟩ = some (.int .i64 (ss[j]?.getD 0))
theorem RdI.below {w w' : World} {A : Option Addr} {n c : Nat} {ss : List Int} (h : RdI w A n c ss) (hb : Below w.heap.size w w') : RdI w' A n c ss :=
  ⟨h.len, h.cap, h.max, h.rng, fun hn => by
    obtain ⟨b, off, e, hlt, hc⟩ := h.at_ hn
    exact ⟨b, off, e, Nat.lt_of_lt_of_le hlt hb.size, fun j hj => (hb.cell (p := ⟨b, off + j, none⟩) hlt).trans (hc j hj)⟩⟩

/-- Two rows of unlike element types don't share a block. -/
theorem own_apart {w : World} {B B' e e' size size' n n' : Nat} {v v' : Value} {xs xs' : List Value} (h : w.ownsRow B e size v n xs) (h' : w.ownsRow B' e' size' v' n' xs') (hne : e ≠ e') :
    v.ownBlock = none ∨ v.ownBlock ≠ v'.ownBlock := by
  rcases h.2 with ⟨rfl, _⟩ | ⟨g, cap, cur, rfl, _, hh, _⟩
  · exact .inl rfl
  · right
    rcases h'.2 with ⟨rfl, _⟩ | ⟨g', cap', cur', rfl, _, hh', _⟩
    · simp [Value.ownBlock]
    · intro e1
      have e2 : g = g' := by simpa [Value.ownBlock] using e1
      subst e2
      rw [hh] at hh'
      injection hh' with hh'
      injection hh' with _ ht
      exact hne ht
theorem own_set {w : World} {B e size n p : Nat} {t : TypeId} {cs : Array Value} {v : Value} {xs : List Value} (h : w.ownsRow B e size v n xs) (hp : w.heap[p]? = some (.cells cs t (0, 0))) (hne : e ≠ t) (off : Nat) (u : Value) :
    (w.setCell ⟨p, off, none⟩ u).ownsRow B e size v n xs := by
  refine ⟨h.1, ?_⟩
  rcases h.2 with h0 | ⟨g, cap, cur, h1, h2, hh, rest⟩
  · exact .inl h0
  · refine .inr ⟨g, cap, cur, h1, h2, ?_, rest⟩
    rw [Below.heap_setCell w _ u g (fun e1 => by
      have e2 : g = p := e1
      subst e2
      rw [hh] at hp
      injection hp with hp
      injection hp with _ ht
      exact hne ht)]
    exact hh
theorem own_mono {w : World} {B B' e size n : Nat} {v : Value} {xs : List Value} (h : w.ownsRow B e size v n xs) (hB : B' ≤ B) : w.ownsRow B' e size v n xs := by
  refine ⟨h.1, ?_⟩
  rcases h.2 with h0 | ⟨g, cap, cur, h1, h2, rest⟩
  · exact .inl h0
  · exact .inr ⟨g, cap, cur, h1, Nat.le_trans hB h2, rest⟩

/-- Values that are slices of new memory and read as xss, row by row. -/
structure OwnVs (w : World) (B : Nat) (vs : List Value) (xss : List (List UInt8)) : Prop where
  len : vs.length = xss.length
  at_ : ∀ j, j < xss.length → ∃ A n c, vs[j]? = some (.slice A n c) ∧ w.ownsRow B 5 1 (.slice A n c) n (bv (xss[j]?.getD []))
theorem OwnVs.keep {w w' : World} {B : Nat} {vs : List Value} {xss : List (List UInt8)} (h : OwnVs w B vs xss)
    (hk : ∀ (v : Value) (n : Nat) (xs : List Value), w.ownsRow B 5 1 v n xs → w'.ownsRow B 5 1 v n xs) : OwnVs w' B vs xss :=
  ⟨h.len, fun j hj => by
    obtain ⟨A, n, c, h1, h2⟩ := h.at_ j hj
    exact ⟨A, n, c, h1, hk _ _ _ h2⟩⟩
theorem OwnVs.nil_ (w : World) (B : Nat) : OwnVs w B [] [] := ⟨rfl, fun j hj => absurd hj (by simp)⟩
theorem OwnVs.snoc {w : World} {B : Nat} {vs : List Value} {xss : List (List UInt8)} {A : Option Addr} {n c : Nat} {xs : List UInt8} (h : OwnVs w B vs xss)
    (h' : w.ownsRow B 5 1 (.slice A n c) n (bv xs)) : OwnVs w B (vs ++ [.slice A n c]) (xss ++ [xs]) :=
  ⟨by simp [h.len], fun j hj => by
    have hl := h.len
    rcases Nat.lt_or_ge j xss.length with h1 | h1
    · obtain ⟨A', n', c', h2, h3⟩ := h.at_ j h1
      exact ⟨A', n', c', by rw [List.getElem?_append_left (by omega)]; exact h2, by rw [List.getElem?_append_left h1]; exact h3⟩
    · obtain rfl : j = xss.length := by simp at hj; omega
      exact ⟨A, n, c, by rw [← hl]; simp, by simpa using h'⟩⟩
/-- What a cut answers: the parts, and the code. -/
def cutF (ps : List (List UInt8)) (b : List UInt8) : List Int → List (List UInt8) × Int
  | [] => if 0 < b.length then ([], 5) else (ps, 0)
  | n :: ns => if n < 0 then ([], 1) else if (b.length : Int) < n then ([], 2) else cutF (ps ++ [b.take n.toNat]) (b.drop n.toNat) ns
def cutL (b : List UInt8) (ns : List Int) : List (List UInt8) × Int := cutF [] b ns

theorem cut_drop (ss : List Int) (k : Nat) (hk : k < ss.length) : ss.drop k = (ss[k]?.getD 0) :: ss.drop (k + 1) := by
  rw [List.drop_eq_getElem_cons hk, List.getElem?_eq_getElem hk]; rfl

def CutEnd (w : World) (r : List (List UInt8) × Int) (e : Ending) (w' : World) : Prop :=
  ∃ (A : Option Addr) (n c : Nat) (vs : List Value), e = .returned (.tuple #[.slice A n c, .int .i64 r.2]) ∧ w'.ownsRow (w.heap.size + 1) 23 1 (.slice A n c) n vs ∧ OwnVs w' w.heap.size vs r.1 ∧ Below w.heap.size w w'

/-- What holds at the head of Cut's loop. -/
structure CutAt (w : World) (xs : List UInt8) (ss : List Int) (k : Nat) (v vout : Value) (wr : World) : Prop where
  ex : ∃ (A : Option Addr) (m c d : Nat) (vs : List Value) (ps : List (List UInt8)), v = .slice A m c ∧ Rd w A m c (xs.drop d) ∧ cutF ps (xs.drop d) (ss.drop k) = cutL xs ss ∧ OwnVs wr w.heap.size vs ps ∧
    wr.ownsRow (w.heap.size + 1) 23 1 vout k vs
  hq : Bk wr w.heap.size 29 #[.int .i64 0]
  bel : Below w.heap.size w wr

theorem cut_eq (xs : List UInt8) (ss : List Int) (k d : Nat) (ps : List (List UInt8)) (q : Int) (hk : k < ss.length) (e : cutF ps (xs.drop d) (ss.drop k) = cutL xs ss) (hq : ss[k]?.getD 0 = q) :
    cutL xs ss = if q < 0 then ([], 1) else if ((xs.drop d).length : Int) < q then ([], 2) else cutF (ps ++ [(xs.drop d).take q.toNat]) ((xs.drop d).drop q.toNat) (ss.drop (k + 1)) := by
  rw [← e, cut_drop ss k hk, hq]; rfl

theorem cut_start (w : World) (A : Option Addr) (m c : Nat) (xs : List UInt8) (ss : List Int) (h : Rd w A m c xs) :
    CutAt w xs ss 0 (.slice A m c) (.slice none 0 0) (w.alloc (.cells #[.int .i64 0] 29)) :=
  ⟨⟨A, m, c, 0, [], [], rfl, by simpa using h, rfl, OwnVs.nil_ _ _, World.ownsRow_nil _ _ _ _⟩, Bk.new _ _ _, (Below.refl _ _).alloc (Nat.le_refl _) _⟩

theorem cut_door (w wr : World) (code : Int) (r : List (List UInt8) × Int) (tmps : Array Value) (hq : Bk wr w.heap.size 29 #[.int .i64 0]) (hb : Below w.heap.size w wr) (hr : r = ([], code))
    (h4 : tmps.getD 4 undef = .slice none 0 0) (h5 : tmps.getD 5 undef = .pointer (some ⟨w.heap.size, 0, none⟩)) :
    bodyPostD Tryz.prog Tryz.f104 (CutEnd w r) (Exit.panic [LV.wrg code])
      { tmps := tmps, defers := [{ target := Target.fn (Fn.func 122) #[.pointer (some ⟨w.heap.size, 0, none⟩)], args := #[] }] } wr := by
  refine leaves_cons (f := 122) (args := #[.pointer (some ⟨w.heap.size, 0, none⟩)]) (by simp) (by simp [go_sem]) ?_
  refine (cut_caught w.heap.size 0 code [] wr hq).mono ?_
  rintro e u' w'' ⟨rfl, rfl, w1, hb1, rfl⟩
  subst hr
  have c1 := cell_of_one ((hq.below hb1 hq.lt).put 0 (.int .i64 code))
  have h4' : tmps[4]?.getD undef = .slice none 0 0 := by simpa using h4
  have h5' : tmps[5]?.getD undef = .pointer (some ⟨w.heap.size, 0, none⟩) := by simpa using h5
  simp [Leaves, settle, results, Tryz.results104, go_sem, h4', h5', c1]
  exact ⟨none, 0, 0, [], rfl, World.ownsRow_nil _ _ _ _, OwnVs.nil_ _ _, (hb.trans (hb1.mono hb.size)).setCell (Nat.le_refl _) _⟩

theorem cut_next {w wr w1 w3 : World} {xs : List UInt8} {ss : List Int} {k m c d t n1 c1 B1 : Nat} {A A1 : Option Addr} {vs : List Value} {ps : List (List UInt8)} {vout v' : Value} {T : TypeId}
    (hrd : Rd w A m c (xs.drop d)) (heq : cutL xs ss = cutF (ps ++ [(xs.drop d).take t]) ((xs.drop d).drop t) (ss.drop (k + 1))) (hvs : OwnVs wr w.heap.size vs ps)
    (hown : wr.ownsRow (w.heap.size + 1) 23 1 vout k vs) (hq : Bk wr w.heap.size 29 #[.int .i64 0]) (hbel : Below w.heap.size w wr)
    (hbw1 : Below wr.heap.size wr w1) (hB1 : w.heap.size ≤ B1) (ho1 : w1.ownsRow B1 5 1 (.slice A1 n1 c1) n1 (bv ((xs.drop d).take t)))
    (hown3 : w3.ownsRow (w.heap.size + 1) 23 1 v' (k + 1) (vs ++ [.slice A1 n1 c1])) (hg : (w1.alloc (.cells #[.slice A1 n1 c1] T)).grownBy w3 vout.ownBlock) (htm : t ≤ m) :
    CutAt w xs ss (k + 1) (.slice (if c = t then A else A.map (·.add t)) (m - t) (c - t)) v' w3 := by
  have hvo : ∀ g, vout.ownBlock = some g → w.heap.size + 1 ≤ g := fun g hg => (hown.lt g hg).1
  have hownA := (own_below hown hbw1).alloc (.cells #[.slice A1 n1 c1] T)
  have hq3 := block_grown (block_alloc (block_below hq hbw1) (.cells #[.slice A1 n1 c1] T)) hg (fun e => by have h5 : w.heap.size + 1 ≤ w.heap.size := hvo _ e; omega)
  have hb3 : Below w.heap.size w w3 := by
    have s1 := hbel.size
    have s2 := hbw1.size
    exact ((hbel.trans (hbw1.mono s1)).alloc (by omega) _).grown hg (by simp; omega) (fun g h => by have := hvo g h; omega)
  have keep : ∀ (v : Value) (n : Nat) (xs : List Value), (w1.alloc (.cells #[.slice A1 n1 c1] T)).ownsRow w.heap.size 5 1 v n xs → w3.ownsRow w.heap.size 5 1 v n xs := by
    intro v n xs h
    exact h.kept hg (own_apart h hownA (by decide))
  refine ⟨⟨_, m - t, c - t, d + t, _, _, rfl, ?_, ?_, ((hvs.keep fun v n xs h => (own_below h hbw1).alloc _).snoc ((own_mono ho1 hB1).alloc _)).keep keep, hown3⟩, hq3, hb3⟩
  · have := hrd.cut htm
    rwa [List.drop_drop] at this
  · rw [heq, List.drop_drop]

theorem cut_done (w wr : World) (A : Option Addr) (n c : Nat) (vs : List Value) (ps : List (List UInt8)) (r : List (List UInt8) × Int) (tmps : Array Value)
    (hq : Bk wr w.heap.size 29 #[.int .i64 0]) (hb : Below w.heap.size w wr) (hown : wr.ownsRow (w.heap.size + 1) 23 1 (.slice A n c) n vs) (hvs : OwnVs wr w.heap.size vs ps) (hr : r = (ps, 0))
    (h4 : tmps.getD 4 undef = .slice A n c) (h5 : tmps.getD 5 undef = .pointer (some ⟨w.heap.size, 0, none⟩)) :
    bodyPostD Tryz.prog Tryz.f104 (CutEnd w r) Exit.ret
      { tmps := tmps, defers := [{ target := Target.fn (Fn.func 122) #[.pointer (some ⟨w.heap.size, 0, none⟩)], args := #[] }] } (wr.setCell ⟨w.heap.size, 0, none⟩ (.int .i64 0)) := by
  have hq1 : Bk (wr.setCell ⟨w.heap.size, 0, none⟩ (.int .i64 0)) w.heap.size 29 #[.int .i64 0] := hq.put 0 (.int .i64 0)
  have hq2 : Bk ((wr.setCell ⟨w.heap.size, 0, none⟩ (.int .i64 0)).setCell ⟨w.heap.size, 0, none⟩ (.int .i64 0)) w.heap.size 29 #[.int .i64 0] := hq1.put 0 (.int .i64 0)
  have c2 := cell_of_one hq2
  have h4' : tmps[4]?.getD undef = .slice A n c := by simpa using h4
  have h5' : tmps[5]?.getD undef = .pointer (some ⟨w.heap.size, 0, none⟩) := by simpa using h5
  have ho2 := own_set (own_set hown hq (by decide) 0 (.int .i64 0)) hq1 (by decide) 0 (.int .i64 0)
  have hv2 := hvs.keep fun v m xs h => own_set (own_set h hq (by decide) 0 (.int .i64 0)) hq1 (by decide) 0 (.int .i64 0)
  refine leaves_cons (f := 122) (args := #[.pointer (some ⟨w.heap.size, 0, none⟩)]) (by simp) (by simp [go_sem]) ?_
  refine (cut_idle w.heap.size 0 _ hq1).mono ?_
  rintro e u' w'' ⟨rfl, rfl, rfl⟩
  subst hr
  simp [Leaves, settle, results, Tryz.results104, go_sem, h4', h5', c2]
  exact ⟨A, n, c, vs, rfl, ho2, hv2, (hb.setCell (Nat.le_refl _) _).setCell (Nat.le_refl _) _⟩

theorem first_bad (A : Option Addr) (m c : Nat) (q : Int) (w : World) (hq : q < 0 ∨ (m : Int) < q) (hm : q ≤ (maxLen : Nat)) :
    Calls Tryz.prog 123 #[.slice A m c, .int .i64 q] w fun e w' => e = .panicked [LV.wrg (if q < 0 then 1 else 2)] ∧ w = w' := by
  by_cases hneg : q < 0
  · rw [if_pos hneg]; exact first_neg A m c q w hneg
  · rw [if_neg hneg]
    obtain ⟨k, rfl⟩ := Int.eq_ofNat_of_zero_le (show 0 ≤ q by omega)
    exact first_short A m c k w (by omega) (by omega)

set_option maxHeartbeats 1000000 in
theorem cut_any (A A2 : Option Addr) (m c n c2 : Nat) (xs : List UInt8) (ss : List Int) (w : World) (h : Rd w A m c xs) (h2 : RdI w A2 n c2 ss) (hm : m ≤ 140737488355328) (hn : n ≤ 1000000000) :
    Calls Tryz.prog 104 #[.slice A m c, .slice A2 n c2] w (CutEnd w (cutL xs ss)) := by
  have hmf : ∀ (fn : Fn) (first cap : Array Value) (w : World), (Instr.makeFunc fn first cap).run Tryz.prog w = .ok (.func fn first cap) w := fun _ _ _ _ => rfl
  have HY := Lib.hid (fun X => LV.need_yes 5 X)
  have HN := Lib.hid (fun X => LV.need_no 5 X)
  obtain ⟨i0, hi, hz0, hz1, hz2⟩ := info_parts infoBytesC
  go_enter_defers Tryz.func104, Tryz.ntmps104
  go_wp2
  go_loopw [0, 6, 8, 12] (fun v vo _ i wr => ∃ k : Nat, k ≤ n ∧ i = .int .i64 (k : Int) ∧ CutAt w xs ss k v vo wr) (fun _ _ _ i _ => n - (intOf i).toNat)
  case atStart => exact ⟨0, Nat.zero_le _, rfl, cut_start w A m c xs ss h⟩
  case round =>
    obtain ⟨k, hk, rfl, hat⟩ := hrel
    obtain ⟨⟨A, m, c, d, vs, ps, rfl, hrw, heq, hvs, hown⟩, hq, hbel⟩ := hat
    have hrd := hrw.below hbel
    have cq := cell_of_one hq
    have fq := free_of_one hq
    by_cases hlt : k < n
    · obtain ⟨b, off, rfl, hb, hcell⟩ := (h2.below hbel).at_ (by omega)
      obtain ⟨q, hqq⟩ : ∃ q, ss[k]?.getD 0 = q := ⟨_, rfl⟩
      have hc := hcell k hlt
      rw [hqq] at hc
      have hqm : q ≤ (maxLen : Nat) := by rw [← hqq, List.getElem?_eq_getElem (by have := h2.len; omega)]; exact h2.rng _ (List.getElem_mem _)
      have HE := Lib.hid (cut_eq xs ss k d ps q (by have := h2.len; omega) heq hqq)
      clear hcell hqq heq
      by_cases hbad : q < 0 ∨ (m : Int) < q
      · have HR : Hid (cutL xs ss = ([], if q < 0 then 1 else 2)) := by
          show cutL xs ss = _
          rw [HE.out, hrd.len]
          split
          · rfl
          · rw [if_pos (by omega)]
        have HB := Lib.hid (fun W => first_bad A m c q W hbad hqm)
        obtain ⟨C, hC⟩ : ∃ C : Int, C = if q < 0 then 1 else 2 := ⟨_, rfl⟩
        rw [← hC] at HB HR
        clear hC
        clear hbad
        go_wp2_with (go_at_call 123; ((with_reducible refine (HB.out _).mono ?_); rintro e w' ⟨rfl, rfl⟩))
        exact cut_door w wr _ (cutL xs ss) _ hq hbel HR.out rfl rfl
      · obtain ⟨t, rfl⟩ := Int.eq_ofNat_of_zero_le (show 0 ≤ q by omega)
        have htm : t ≤ m := by omega
        have hti : (t : Int) ≤ (m : Int) := by omega
        have ht0 : (0 : Int) ≤ (t : Int) := by omega
        clear hbad
        have HC : Hid (cutL xs ss = cutF (ps ++ [(xs.drop d).take t]) ((xs.drop d).drop t) (ss.drop (k + 1))) := by
          show cutL xs ss = _
          rw [HE.out, if_neg (by omega), hrd.len, if_neg (by omega)]
          simp
        have hmt : m ≤ 140737488355328 := by have e1 := hrd.len; have e2 := h.len; simp at e1; omega
        have hcap := hrd.cap
        have hws := hbel.size
        have HF := Lib.hid (first_ok A m c t (xs.drop d) wr hrd htm (by omega))
        have HW := Lib.hid hown
        go_wp2_with (first
          | (go_at_call 123; ((with_reducible refine HF.out.mono ?_); rintro e w1 ⟨A1, n1, c1, rfl, ho1, hb1⟩; have HO1 := Lib.hid ho1; have HB1 := Lib.hid hb1; have hws1 := hb1.size; clear ho1 hb1))
          | (at_builtin; refine wpList_append_own _ (by rfl) _ _ 60 (by rfl) (w.heap.size + 1) 23 i0 (.slice none 0 0) 1 24 Tryz.underlying60 hi hz0 hz1 hz2 rfl (by decide) _ _ _ (by rfl) ((own_below HW.out HB1.out).alloc _) ⟨w1.heap.size, 0, none⟩ 1 1 [.slice A1 n1 c1] (by rfl) (by rfl) (World.news_of_block (heap_alloc_new w1 _)) (by simp [Value.oneCell']) (by simp only [maxLen]; omega) (by omega) (by simp; omega) ?_; intro v' w3 hown3 hgrow _; have HO3 := Lib.hid hown3; have HG3 := Lib.hid hgrow; clear hown3 hgrow))
        go_roundw
        case rel => exact ⟨k + 1, by omega, by go_num, cut_next hrw HC.out hvs HW.out hq hbel HB1.out hbel.size HO1.out HO3.out HG3.out htm⟩
        case measure => simp [intOf]; omega
    · obtain rfl : k = n := by omega
      have hd : ss.drop k = [] := List.drop_eq_nil_of_le (by have := h2.len; omega)
      rw [hd] at heq
      have hlen := hrw.len
      by_cases hm0 : 0 < m
      · have HR : Hid (cutL xs ss = ([], 5)) := by
          show cutL xs ss = _
          rw [← heq]; simp only [cutF]; rw [if_pos (by omega)]
        have q1 : ((m : Int) == 0) = false := by simp; omega
        clear heq hd
        go_wp2_with (go_at_call 30; ((with_reducible refine (HN.out _).mono ?_); rintro e w' ⟨rfl, rfl⟩))
        exact cut_door w wr 5 (cutL xs ss) _ hq hbel HR.out rfl rfl
      · have HR : Hid (cutL xs ss = (ps, 0)) := by
          show cutL xs ss = _
          rw [← heq]; simp only [cutF]; rw [if_neg (by omega)]
        obtain rfl : m = 0 := by omega
        clear heq hd
        obtain ⟨Ao, co, rfl⟩ := own_form hown
        go_wp2_with (go_at_call 30; ((with_reducible refine (HY.out _).mono ?_); rintro e w' ⟨rfl, rfl⟩))
        exact cut_done w wr Ao k co vs ps (cutL xs ss) _ hq hbel hown hvs HR.out rfl rfl
end Go.Proofs.YtnoflgkjdibblaaGreatDoor.CT
