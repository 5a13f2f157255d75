/-
  Texts put together: Sl3, Cat, RPut. No statement is proved here.
-/
import Derived.Test.YtnoflgkjdibblaaGreatDoorWa05
import Derived.Test.YtnoflgkjdibblaaGreatDoorWa12
import Derived.Test.YtnoflgkjdibblaaGreatDoorWa02

/-
  The document's own slots: Room, May, New. No statement is proved here.
-/
namespace Go.Proofs.YtnoflgkjdibblaaGreatDoor.S20
set_option linter.unusedSimpArgs false
set_option linter.unusedVariables false
set_option maxRecDepth 4096
open Go.RowKit S19

theorem rroom_any (n : Int) (h1 : -9223372036854775808 ≤ n) (h2 : n < 9223372036854775808) (w : World) : Calls Tryz.prog 69 #[.int .i64 n] w fun e w' => e = .returned (.int .i64 (room n : Int)) ∧ w = w' := by
  unfold room
  by_cases q1 : n < 1
  · rw [if_neg (by omega)]
    go_enter Tryz.func69, Tryz.ntmps69
    go_wp2_with (fail)
    go_ret
    exact ⟨rfl, rfl⟩
  · by_cases q2 : 8 < n
    · rw [if_neg (by omega)]
      go_enter Tryz.func69, Tryz.ntmps69
      go_wp2_with (fail)
      go_ret
      exact ⟨rfl, rfl⟩
    · rw [if_pos (by omega)]
      obtain ⟨m, rfl⟩ := Int.eq_ofNat_of_zero_le (show 0 ≤ n by omega)
      have e : ((64 * m - 28 : Nat) : Int) = 64 * (m : Int) - 28 := by omega
      rw [Int.toNat_natCast, e]
      clear e
      go_enter Tryz.func69, Tryz.ntmps69
      go_wp2_with (fail)
      go_ret
      first
        | exact ⟨rfl, rfl⟩
        | (refine ⟨?_, rfl⟩; congr 2; first | (unfold wrap64; omega) | go_num)
/-- May there be slots? -/
def may (k : Nat) (first n : Int) : Bool := decide (1 ≤ n ∧ n ≤ 8 ∧ 0 ≤ first ∧ first + 2 * n ≤ (k : Int))
/-- What the document's own slots hold, beside their disk. -/
abbrev slA (h : Nat) (Z : Sl) (A : Option Addr) (c : Nat) : Array Value := #[.pointer (some ⟨h, 0, none⟩), .int .i64 (Z.first : Int), .int .i64 (Z.n : Int), .int .i64 Z.at_, .int .u64 (Z.num : Int), .slice A Z.b.length c]
/-- Where they lie. -/
structure Rz (N : Nat) (w : World) (q h : Nat) (Z : Sl) (S : Nat → Prop) : Prop where
  ex : ∃ A c, Bk w q 87 (slA h Z A c) ∧ Rd w A Z.b.length c Z.b ∧ ∀ a, 0 < Z.b.length → A = some a → S a.block ∧ a.block ≠ q
  at_ : S q
  lt : ∀ b, S b → N ≤ b ∧ b < w.heap.size
theorem Rz.keep {N : Nat} {w w' : World} {q h : Nat} {Z : Sl} {S : Nat → Prop} (r : Rz N w q h Z S) (hs : w.heap.size ≤ w'.heap.size) (hk : ∀ b, S b → w'.heap[b]? = w.heap[b]?) : Rz N w' q h Z S := by
  obtain ⟨A, c, h1, h2, h3⟩ := r.ex
  refine ⟨⟨A, c, (hk q r.at_).trans h1, ⟨h2.len, h2.cap, h2.max, h2.nil, fun hn => ?_⟩, h3⟩, r.at_, fun b hb => ⟨(r.lt b hb).1, Nat.lt_of_lt_of_le (r.lt b hb).2 hs⟩⟩
  obtain ⟨b, off, rfl, hl, hc⟩ := h2.at_ hn
  exact ⟨b, off, rfl, Nat.lt_of_lt_of_le hl hs, fun j hj => (World.cell?_of_block (a := ⟨b, off + j, none⟩) (hk b (h3 _ hn rfl).1)).trans (hc j hj)⟩
theorem rnew20_any (N : Nat) (w : World) (hN : N ≤ w.heap.size) (h first n : Nat) :
    Calls Tryz.prog 9 #[.pointer (some ⟨h, 0, none⟩), .int .i64 (first : Int), .int .i64 (n : Int)] w fun e w' => ∃ q, e = .returned (.pointer (some ⟨q, 0, none⟩)) ∧ Rz N w' q h (Sl.new first n) (fun b => b = q) ∧ w.heap.size ≤ q ∧ Below w.heap.size w w' := by
  obtain ⟨q, hq⟩ : ∃ q, w.heap.size = q := ⟨_, rfl⟩
  obtain ⟨w1, hw1⟩ : ∃ w1, w.alloc (.cells #[.pointer (some ⟨h, 0, none⟩), .int .i64 (first : Int), .int .i64 (n : Int), .int .i64 (-1), .int .u64 0, .slice none 0 0] 87) = w1 := ⟨_, rfl⟩
  have T1 := Lib.hid (show Bk w1 q 87 (slA h (Sl.new first n) none 0) by rw [← hw1]; exact Bk.newAt _ _ _ _ hq)
  have B1 := Lib.hid (show Below w.heap.size w w1 by rw [← hw1]; exact (Below.refl _ _).alloc (Nat.le_refl _) _)
  have HQ := Lib.hid hq
  have HN := Lib.hid hN
  clear hN
  go_enter Tryz.func9, Tryz.ntmps9
  go_wp2_with (fail)
  first
    | rw [hw1, hq]
    | rw [hw1]
    | skip
  go_ret
  have F : Rz N w1 q h (Sl.new first n) (fun b => b = q) := ⟨⟨none, 0, T1.out, Rd.nil_ _, fun a h1 => absurd h1 (by show ¬ 0 < 0; omega)⟩, rfl, fun b e => by subst e; exact ⟨by rw [← HQ.out]; exact HN.out, T1.out.lt⟩⟩
  first
    | exact ⟨q, rfl, F, by omega, B1.out⟩
    | exact ⟨q, rfl, F, Nat.le_of_eq HQ.out, B1.out⟩
    | exact ⟨rfl, F, Nat.le_refl _, by rw [HQ.out] at B1; exact B1.out⟩
end Go.Proofs.YtnoflgkjdibblaaGreatDoor.S20

/-
  What octet.Cat does.
-/
namespace Go.Proofs.YtnoflgkjdibblaaGreatDoor
set_option linter.unusedSimpArgs false
set_option linter.unusedVariables false
set_option maxRecDepth 1024
open Go.RowKit

/-- The first k rows, one behind the other; how many bytes they have. -/
def cats (xss : List (List UInt8)) (k : Nat) : List UInt8 := (xss.take k).flatten
def tot (xss : List (List UInt8)) (k : Nat) : Nat := (cats xss k).length
theorem cats_succ (xss : List (List UInt8)) (k : Nat) (hk : k < xss.length) : cats xss (k + 1) = cats xss k ++ (xss[k]?.getD []) := by
  unfold cats
  rw [List.take_succ_eq_append_getElem hk, List.getElem?_eq_getElem hk, List.flatten_append, List.flatten_singleton, Option.getD_some]
theorem cats_all (xss : List (List UInt8)) (k : Nat) (hk : xss.length = k) : cats xss k = xss.flatten := by unfold cats; rw [List.take_of_length_le (by omega)]
theorem tot_succ (xss : List (List UInt8)) (k : Nat) (hk : k < xss.length) : tot xss (k + 1) = tot xss k + (xss[k]?.getD []).length := by
  unfold tot; rw [cats_succ xss k hk, List.length_append]
theorem tot_le (xss : List (List UInt8)) (k : Nat) : tot xss k ≤ xss.flatten.length := by
  have h := congrArg List.length (congrArg List.flatten (List.take_append_drop k xss))
  rw [List.flatten_append, List.length_append] at h
  unfold tot cats
  omega

set_option maxHeartbeats 1000000 in
theorem cat_any (A : Option Addr) (n c : Nat) (xss : List (List UInt8)) (w : World) (h : RdBs w A n c xss) (ht : xss.flatten.length ≤ 140737488355328) :
    Calls Tryz.prog 32 #[.slice A n c] w (New w.heap.size w xss.flatten) := by
  obtain ⟨i0, hi, hz0, hz1, hz2⟩ := info_parts Tryz.infoU8
  have l1 : n ≤ maxLen := Nat.le_trans h.cap h.max
  unfold maxLen at l1
  go_enter Tryz.func32, Tryz.ntmps32
  go_wp2
  go_loop [3, 11] (fun s i => ∃ k : Nat, k ≤ n ∧ i = .int .i64 (k : Int) ∧ s = .int .i64 (tot xss k : Nat)) (fun _ i => n - (intOf i).toNat)
  case atStart => exact ⟨0, Nat.zero_le _, rfl, rfl⟩
  case round =>
    obtain ⟨k, hk, rfl, rfl⟩ := hrel
    by_cases hlt : k < n
    · obtain ⟨b, off, rfl, hb, hcell⟩ := h.at_ (by omega)
      obtain ⟨A', n', c', hc, hr⟩ := hcell k hlt
      have e1 := tot_succ xss k (by have := h.len; omega)
      have e2 := tot_le xss (k + 1)
      have e3 : tot xss k + n' ≤ 140737488355328 := by rw [hr.len] at e1; omega
      have E := Lib.hid e1
      have El := Lib.hid hr.len
      clear hcell e1 e2 hr
      go_wp2
      go_round
      case rel => exact ⟨k + 1, by omega, by go_num, by rw [E.out, El.out]; go_num⟩
      case measure => simp [intOf]; omega
    · obtain rfl : k = n := by omega
      obtain ⟨T, hT⟩ : ∃ T, T = tot xss k := ⟨_, rfl⟩
      rw [← hT]
      have ht' : T ≤ 140737488355328 := by have := tot_le xss k; omega
      have HT := Lib.hid hT
      clear hT
      go_wp2_with (at_make; refine wpList_make_own _ rfl _ _ 23 rfl w.heap.size 5 i0 (.int .u8 0) 1 Tryz.underlying23 hi hz0 hz1 _ _ _ T rfl rfl (by omega) (by rw [hz2]; omega) (by unfold maxLen; omega) (Nat.le_refl _) ?_)
      intro w0 hown0 hgrow0
      have hb0 : Below w.heap.size w w0 := (Below.refl _ _).grown hgrow0 (Nat.le_refl _) (fun k h => by cases h)
      clear hgrow0
      go_wp2
      go_loopw [6, 24] (fun out i wr => ∃ j m : Nat, j ≤ k ∧ i = .int .i64 (j : Int) ∧ wr.ownsRow w.heap.size 5 1 out m (bv (cats xss j)) ∧ Below w.heap.size w wr) (fun _ i _ => k - (intOf i).toNat)
      case atStart => exact ⟨0, 0, Nat.zero_le _, rfl, by simpa [bv, cats] using hown0, hb0⟩
      case round =>
        obtain ⟨j, m, hj, rfl, hown, hbel⟩ := hrel
        by_cases hlt : j < k
        · obtain ⟨b, off, rfl, hb, hcell⟩ := (h.below hbel).at_ (by omega)
          obtain ⟨A', n', c', hc, hr⟩ := hcell j hlt
          have e1 := cats_succ xss j (by have := h.len; omega)
          have e2 := tot_le xss (j + 1)
          have hm := own_len hown
          have e3 : m + n' ≤ 140737488355328 := by unfold tot at e2; rw [e1, List.length_append, hr.len] at e2; omega
          have E := Lib.hid e1
          clear hcell e1 e2 hm
          go_wp2_with (at_builtin; refine append_rd rfl _ _ rfl w.heap.size _ m _ rfl hown A' n' c' _ rfl hr e3 hbel.size ?_; intro v' w1 hown1 hg1)
          go_roundw
          case rel => exact ⟨j + 1, m + n', by omega, by go_num, by rw [E.out]; exact hown1, hbel.grown hg1 hbel.size (fun g hg => (hown.lt g hg).1)⟩
          case measure => simp [intOf]; omega
        · obtain rfl : j = k := by omega
          have e := cats_all xss j h.len
          rw [e] at hown
          clear e
          go_wp2
          go_ret
          exact New.mk hown hbel
/-- Three rows that are written out. -/
theorem RdBs.built3 (w : World) (T : TypeId) {A A' A'' : Option Addr} {n c n' c' n'' c'' : Nat} {xs ys zs : List UInt8} (h : Rd w A n c xs) (h' : Rd w A' n' c' ys) (h'' : Rd w A'' n'' c'' zs) :
    RdBs (w.alloc (.cells #[.slice A n c, .slice A' n' c', .slice A'' n'' c''] T)) (some ⟨w.heap.size, 0, none⟩) 3 3 [xs, ys, zs] :=
  RdBs.built w _ T [xs, ys, zs] (by simp [maxLen]) fun j hj => by
    match j, hj with
    | 0, _ => exact ⟨A, n, c, rfl, h⟩
    | 1, _ => exact ⟨A', n', c', rfl, h'⟩
    | 2, _ => exact ⟨A'', n'', c'', rfl, h''⟩
end Go.Proofs.YtnoflgkjdibblaaGreatDoor

/-
  What the document's own Put and Cat do, of layer 1; append, and where what is appended lies. No statement is proved here.
-/
namespace Go.Proofs.YtnoflgkjdibblaaGreatDoor
set_option linter.unusedSimpArgs false
set_option linter.unusedVariables false
set_option maxRecDepth 1024
open Go.RowKit

/-- append; where the new row lies. -/
theorem append_rdA {w : World} {ops : Array Oper} {rest : List Oper} {o : Oper} {a : Act} {Q : Exit → Act → World → Prop} (hgd : o.guard = none) (s x : Operand)
    (ho : o.op = .call { callee := .builtin .append, args := #[s, x], argTypes := #[23, 23] })
    (base : Nat) (v : Value) (n : Nat) (xs : List UInt8) (hs : a.eval s = v) (hown : w.ownsRow base 5 1 v n (bv xs))
    (A : Option Addr) (m c : Nat) (ys : List UInt8) (hx : a.eval x = .slice A m c) (hr : Rd w A m c ys) (hb : n + m ≤ 140737488355328) (hbase : base ≤ w.heap.size)
    (h : ∀ v' w', w'.ownsRow base 5 1 v' (n + m) (bv (xs ++ ys)) → w.grownBy w' v.ownBlock → (v'.ownBlock = v.ownBlock ∨ v'.ownBlock = some w.heap.size) → wpList Tryz.prog ops Q rest (a.put o.dst v') w') :
    wpList Tryz.prog ops Q (o :: rest) a w :=
  wpList_plain hgd fun K hK => by
    have := step_append_rd (ops := ops) (o := o) (a := a) (K := K) (Q := Q) (E := True) (by simp [Region.wanted, hgd]) s x ho base v n xs hs hown A m c ys hx hr hb hbase (fun v' w' h1 h2 h3 => hK _ _ (h v' w' h1 h2 h3))
    rwa [if_pos (by simp [Region.wanted, hgd])] at this
/-- append where it is guarded. -/
theorem append_zz {w : World} {ops : Array Oper} {rest : List Oper} {o : Oper} {a : Act} {Q : Exit → Act → World → Prop} (hw : Region.wanted o (yielded ops a.tmps) = true) (s x : Operand)
    (ho : o.op = .call { callee := .builtin .append, args := #[s, x], argTypes := #[23, 23] })
    (base : Nat) (v : Value) (n : Nat) (xs : List UInt8) (hs : a.eval s = v) (hown : w.ownsRow base 5 1 v n (bv xs))
    (A : Option Addr) (m c : Nat) (ys : List UInt8) (hx : a.eval x = .slice A m c) (hr : Rd w A m c ys) (hb : n + m ≤ 140737488355328) (hbase : base ≤ w.heap.size)
    (h : ∀ v' w', w'.ownsRow base 5 1 v' (n + m) (bv (xs ++ ys)) → w.grownBy w' v.ownBlock → wpList Tryz.prog ops Q rest (a.put o.dst v') w') :
    wpList Tryz.prog ops Q (o :: rest) a w := by
  unfold wpList
  rw [if_pos hw]
  left
  have := step_append_rd (ops := ops) (o := o) (a := a) (K := wpList Tryz.prog ops Q rest) (Q := Q) (E := True) hw s x ho base v n xs hs hown A m c ys hx hr hb hbase (fun v' w' h1 h2 _ => h v' w' h1 h2)
  rwa [if_pos hw] at this
theorem own_apart {w w' : World} {B e size n : Nat} {v : Value} {xs : List Value} {row : Option Nat} (h : w.ownsRow B e size v n xs) (hg : w.grownBy w' row) (hb : ∀ g, v.ownBlock = some g → row ≠ some g) : w'.ownsRow B e size v n xs := by
  refine ⟨h.1, ?_⟩
  rcases h.2 with h | ⟨g, cap, cur, h1, h2, h3, h4⟩
  · exact .inl h
  · refine .inr ⟨g, cap, cur, h1, h2, ?_, h4⟩
    have hlt : g < w.heap.size := by
      rcases Nat.lt_or_ge g w.heap.size with h | h
      · exact h
      · rw [Array.getElem?_eq_none h] at h3; cases h3
    rw [hg.block g hlt (fun e => hb g (by rw [h1]; rfl) e.symm)]
    exact h3
theorem own_byte (w : World) (B q : Nat) (hB : B ≤ w.heap.size) :
    (w.alloc (.cells #[.int .u8 ((q : Int) % 256)] 5)).ownsRow B 5 1 (.slice (some ⟨w.heap.size, 0, none⟩) 1 1) 1 (bv [UInt8.ofNat q]) := by
  have := own_lit_u8 w B [UInt8.ofNat q] hB (by simp [maxLen])
  simpa [bv] using this
theorem rput_next (V k : Nat) (hV : V < 18446744073709551616) : Value.int .u64 (IntKind.u64.wrap (((V / 256 ^ k : Nat) : Int) / 256)) = .int .u64 ((V / 256 ^ (k + 1) : Nat) : Int) := by
  have h := Nat.div_le_self V (256 ^ k)
  rw [Nat.pow_succ, ← Nat.div_div_eq_div_mul, IntKind.wrap_u64]
  generalize V / 256 ^ k = q at h ⊢
  congr 1
  omega
theorem putL_succ (V k q : Nat) (hq : q = V / 256 ^ k) : putL V (k + 1) = [UInt8.ofNat q] ++ putL V k := by rw [hq]; rfl
set_option maxHeartbeats 1000000 in
theorem rput_any (V n : Nat) (w : World) (hn : n ≤ 8) (hV : V < 18446744073709551616) :
    Calls Tryz.prog 68 #[.int .u64 (V : Int), .int .i64 (n : Int)] w (New w.heap.size w (putL V n)) := by
  go_enter Tryz.func68, Tryz.ntmps68
  go_wp2
  go_loopw [0, 5, 6] (fun v out i wr => ∃ k : Nat, k ≤ n ∧ i = .int .i64 (k : Int) ∧ v = .int .u64 ((V / 256 ^ k : Nat) : Int) ∧ wr.ownsRow w.heap.size 5 1 out k (bv (putL V k)) ∧ Below w.heap.size w wr)
    (fun _ _ i _ => n - (intOf i).toNat)
  case atStart =>
    refine ⟨0, Nat.zero_le _, rfl, by simp, ?_, (Below.refl _ _).alloc (Nat.le_refl _) _⟩
    exact own_lit_u8 w w.heap.size [] (Nat.le_refl _) (by simp)
  case round =>
    obtain ⟨k, hk, rfl, rfl, hown, hbel⟩ := hrel
    by_cases hlt : k < n
    · obtain ⟨A', c', rfl⟩ := own_form hown
      have hr := Rd.own hown
      have hsz := hbel.size
      obtain ⟨q, hq⟩ : ∃ q, q = V / 256 ^ k := ⟨_, rfl⟩
      have HQ := Lib.hid hq
      rw [← hq]
      clear hq
      have hlit := own_byte wr w.heap.size q hsz
      have hb1 : Below w.heap.size w (wr.alloc (.cells #[.int .u8 ((q : Int) % 256)] 5)) := hbel.alloc hsz _
      go_wp2_with (at_builtin; refine append_rd rfl _ _ rfl w.heap.size _ 1 _ rfl hlit A' k c' _ rfl (hr.alloc _) (by omega) hb1.size ?_; intro v' w1 hown1 hg1)
      go_roundw
      case rel =>
        exact ⟨k + 1, by omega, by go_num, by rw [HQ.out]; exact rput_next V k hV, by rw [putL_succ V k q HQ.out, Nat.add_comm k 1]; exact hown1, hb1.grown hg1 hb1.size (fun g hg => (hlit.lt g hg).1)⟩
      case measure => simp [intOf]; omega
    · obtain rfl : k = n := by omega
      go_wp2
      go_ret
      exact New.mk hown hbel
theorem rcat_any (A : Option Addr) (n c : Nat) (xss : List (List UInt8)) (w : World) (h : RdBs w A n c xss) (ht : xss.flatten.length ≤ 140737488355328) :
    Calls Tryz.prog 67 #[.slice A n c] w (New w.heap.size w xss.flatten) := by
  have l1 : n ≤ maxLen := Nat.le_trans h.cap h.max
  unfold maxLen at l1
  go_enter Tryz.func67, Tryz.ntmps67
  go_wp2
  go_loopw [3, 4] (fun out i wr => ∃ j m : Nat, j ≤ n ∧ i = .int .i64 (j : Int) ∧ wr.ownsRow w.heap.size 5 1 out m (bv (cats xss j)) ∧ Below w.heap.size w wr) (fun _ i _ => n - (intOf i).toNat)
  case atStart => exact ⟨0, 0, Nat.zero_le _, rfl, by simpa [bv, cats] using World.ownsRow_nil _ _ _ _, Below.refl _ _⟩
  case round =>
    obtain ⟨j, m, hj, rfl, hown, hbel⟩ := hrel
    by_cases hlt : j < n
    · obtain ⟨b, off, rfl, hb, hcell⟩ := (h.below hbel).at_ (by omega)
      obtain ⟨A', n', c', hc, hr⟩ := hcell j hlt
      have e1 := cats_succ xss j (by have := h.len; omega)
      have e2 := tot_le xss (j + 1)
      have hm := own_len hown
      have e3 : m + n' ≤ 140737488355328 := by unfold tot at e2; rw [e1, List.length_append, hr.len] at e2; omega
      have E := Lib.hid e1
      clear hcell e1 e2 hm
      go_wp2_with (at_builtin; refine append_rd rfl _ _ rfl w.heap.size _ m _ rfl hown A' n' c' _ rfl hr e3 hbel.size ?_; intro v' w1 hown1 hg1)
      go_roundw
      case rel => exact ⟨j + 1, m + n', by omega, by go_num, by rw [E.out]; exact hown1, hbel.grown hg1 hbel.size (fun g hg => (hown.lt g hg).1)⟩
      case measure => simp [intOf]; omega
    · obtain rfl : j = n := by omega
      have e := cats_all xss j h.len
      rw [e] at hown
      clear e
      go_wp2
      go_ret
      exact New.mk hown hbel
end Go.Proofs.YtnoflgkjdibblaaGreatDoor
