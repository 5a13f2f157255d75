/-
  Texts put together: RPut. No statement is proved here.
-/
import Derived.Test.YtdbamdbdogdpjaaGreatDoorWa06
import Derived.Test.YtdbamdbdogdpjaaGreatDoorWa15

/-
  What the document's own Put and Cat do, of layer 1; append, and where what is appended lies. No statement is proved here.
-/
namespace Go.Proofs.YtdbamdbdogdpjaaGreatDoor
set_option linter.unusedSimpArgs false
set_option linter.unusedVariables false
set_option maxRecDepth 1024
open Go.RowKit

/-- append; where the new row lies. -/
theorem append_rdA {w : World} {ops : Array Oper} {rest : List Oper} {o : Oper} {a : Act} {Q : Exit → Act → World → Prop} (hgd : o.guard = none) (s x : Operand)
    (ho : o.op = .call { callee := .builtin .append, args := #[s, x], argTypes := #[35, 35] })
    (base : Nat) (v : Value) (n : Nat) (xs : List UInt8) (hs : a.eval s = v) (hown : w.ownsRow base 5 1 v n (bv xs))
    (A : Option Addr) (m c : Nat) (ys : List UInt8) (hx : a.eval x = .slice A m c) (hr : Rd w A m c ys) (hb : n + m ≤ 140737488355328) (hbase : base ≤ w.heap.size)
    (h : ∀ v' w', w'.ownsRow base 5 1 v' (n + m) (bv (xs ++ ys)) → w.grownBy w' v.ownBlock → (v'.ownBlock = v.ownBlock ∨ v'.ownBlock = some w.heap.size) → wpList Tryz.prog ops Q rest (a.put o.dst v') w') :
    wpList Tryz.prog ops Q (o :: rest) a w :=
  wpList_plain hgd fun K hK => by
    have := step_append_rd (ops := ops) (o := o) (a := a) (K := K) (Q := Q) (E := True) (by simp [Region.wanted, hgd]) s x ho base v n xs hs hown A m c ys hx hr hb hbase (fun v' w' h1 h2 h3 => hK _ _ (h v' w' h1 h2 h3))
    rwa [if_pos (by simp [Region.wanted, hgd])] at this
/-- append where it is guarded. -/
theorem append_zz {w : World} {ops : Array Oper} {rest : List Oper} {o : Oper} {a : Act} {Q : Exit → Act → World → Prop} (hw : Region.wanted o (yielded ops a.tmps) = true) (s x : Operand)
    (ho : o.op = .call { callee := .builtin .append, args := #[s, x], argTypes := #[35, 35] })
    (base : Nat) (v : Value) (n : Nat) (xs : List UInt8) (hs : a.eval s = v) (hown : w.ownsRow base 5 1 v n (bv xs))
    (A : Option Addr) (m c : Nat) (ys : List UInt8) (hx : a.eval x = .slice A m c) (hr : Rd w A m c ys) (hb : n + m ≤ 140737488355328) (hbase : base ≤ w.heap.size)
    (h : ∀ v' w', w'.ownsRow base 5 1 v' (n + m) (bv (xs ++ ys)) → w.grownBy w' v.ownBlock → wpList Tryz.prog ops Q rest (a.put o.dst v') w') :
    wpList Tryz.prog ops Q (o :: rest) a w := by
  unfold wpList
  rw [if_pos hw]
  left
  have := step_append_rd (ops := ops) (o := o) (a := a) (K := wpList Tryz.prog ops Q rest) (Q := Q) (E := True) hw s x ho base v n xs hs hown A m c ys hx hr hb hbase (fun v' w' h1 h2 _ => h v' w' h1 h2)
  rwa [if_pos hw] at this
theorem own_apart {w w' : World} {B e size n : Nat} {v : Value} {xs : List Value} {row : Option Nat} (h : w.ownsRow B e size v n xs) (hg : w.grownBy w' row) (hb : ∀ g, v.ownBlock = some g → row ≠ some g) : w'.ownsRow B e size v n xs := by
  refine ⟨h.1, ?_⟩
  rcases h.2 with h | ⟨g, cap, cur, h1, h2, h3, h4⟩
  · exact .inl h
  · refine .inr ⟨g, cap, cur, h1, h2, ?_, h4⟩
    have hlt : g < w.heap.size := by
      rcases Nat.lt_or_ge g w.heap.size with h | h
      · exact h
      · rw [Array.getElem?_eq_none h] at h3; cases h3
    rw [hg.block g hlt (fun e => hb g (by rw [h1]; rfl) e.symm)]
    exact h3
theorem own_byte (w : World) (B q : Nat) (hB : B ≤ w.heap.size) :
    (w.alloc (.cells #[.int .u8 ((q : Int) % 256)] 5)).ownsRow B 5 1 (.slice (some ⟨w.heap.size, 0, none⟩) 1 1) 1 (bv [UInt8.ofNat q]) := by
  have := own_lit_u8 w B [UInt8.ofNat q] hB (by simp [maxLen])
  simpa [bv] using this
theorem rput_next (V k : Nat) (hV : V < 18446744073709551616) : Value.int .u64 (IntKind.u64.wrap (((V / 256 ^ k : Nat) : Int) / 256)) = .int .u64 ((V / 256 ^ (k + 1) : Nat) : Int) := by
  have h := Nat.div_le_self V (256 ^ k)
  rw [Nat.pow_succ, ← Nat.div_div_eq_div_mul, IntKind.wrap_u64]
  generalize V / 256 ^ k = q at h ⊢
  congr 1
  omega
theorem putL_succ (V k q : Nat) (hq : q = V / 256 ^ k) : putL V (k + 1) = [UInt8.ofNat q] ++ putL V k := by rw [hq]; rfl
set_option maxHeartbeats 1000000 in
theorem rput_any (V n : Nat) (w : World) (hn : n ≤ 8) (hV : V < 18446744073709551616) :
    Calls Tryz.prog 64 #[.int .u64 (V : Int), .int .i64 (n : Int)] w (New w.heap.size w (putL V n)) := by
  go_enter Tryz.func64, Tryz.ntmps64
  go_wp2
  go_loopw [0, 5, 6] (fun v out i wr => ∃ k : Nat, k ≤ n ∧ i = .int .i64 (k : Int) ∧ v = .int .u64 ((V / 256 ^ k : Nat) : Int) ∧ wr.ownsRow w.heap.size 5 1 out k (bv (putL V k)) ∧ Below w.heap.size w wr)
    (fun _ _ i _ => n - (intOf i).toNat)
  case atStart =>
    refine ⟨0, Nat.zero_le _, rfl, by simp, ?_, (Below.refl _ _).alloc (Nat.le_refl _) _⟩
    exact own_lit_u8 w w.heap.size [] (Nat.le_refl _) (by simp)
  case round =>
    obtain ⟨k, hk, rfl, rfl, hown, hbel⟩ := hrel
    by_cases hlt : k < n
    · obtain ⟨A', c', rfl⟩ := own_form hown
      have hr := Rd.own hown
      have hsz := hbel.size
      obtain ⟨q, hq⟩ : ∃ q, q = V / 256 ^ k := ⟨_, rfl⟩
      have HQ := Lib.hid hq
      rw [← hq]
      clear hq
      have hlit := own_byte wr w.heap.size q hsz
      have hb1 : Below w.heap.size w (wr.alloc (.cells #[.int .u8 ((q : Int) % 256)] 5)) := hbel.alloc hsz _
      go_wp2_with (at_builtin; refine append_rd rfl _ _ rfl w.heap.size _ 1 _ rfl hlit A' k c' _ rfl (hr.alloc _) (by omega) hb1.size ?_; intro v' w1 hown1 hg1)
      go_roundw
      case rel =>
        exact ⟨k + 1, by omega, by go_num, by rw [HQ.out]; exact rput_next V k hV, by rw [putL_succ V k q HQ.out, Nat.add_comm k 1]; exact hown1, hb1.grown hg1 hb1.size (fun g hg => (hlit.lt g hg).1)⟩
      case measure => simp [intOf]; omega
    · obtain rfl : k = n := by omega
      go_wp2
      go_ret
      exact New.mk hown hbel
theorem rcat_any (A : Option Addr) (n c : Nat) (xss : List (List UInt8)) (w : World) (h : RdBs w A n c xss) (ht : xss.flatten.length ≤ 140737488355328) :
    Calls Tryz.prog 63 #[.slice A n c] w (New w.heap.size w xss.flatten) := by
  have l1 : n ≤ maxLen := Nat.le_trans h.cap h.max
  unfold maxLen at l1
  go_enter Tryz.func63, Tryz.ntmps63
  go_wp2
  go_loopw [3, 4] (fun out i wr => ∃ j m : Nat, j ≤ n ∧ i = .int .i64 (j : Int) ∧ wr.ownsRow w.heap.size 5 1 out m (bv (cats xss j)) ∧ Below w.heap.size w wr) (fun _ i _ => n - (intOf i).toNat)
  case atStart => exact ⟨0, 0, Nat.zero_le _, rfl, by simpa [bv, cats] using World.ownsRow_nil _ _ _ _, Below.refl _ _⟩
  case round =>
    obtain ⟨j, m, hj, rfl, hown, hbel⟩ := hrel
    by_cases hlt : j < n
    · obtain ⟨b, off, rfl, hb, hcell⟩ := (h.below hbel).at_ (by omega)
      obtain ⟨A', n', c', hc, hr⟩ := hcell j hlt
      have e1 := cats_succ xss j (by have := h.len; omega)
      have e2 := tot_le xss (j + 1)
      have hm := own_len hown
      have e3 : m + n' ≤ 140737488355328 := by unfold tot at e2; rw [e1, List.length_append, hr.len] at e2; omega
      have E := Lib.hid e1
      clear hcell e1 e2 hm
      go_wp2_with (at_builtin; refine append_rd rfl _ _ rfl w.heap.size _ m _ rfl hown A' n' c' _ rfl hr e3 hbel.size ?_; intro v' w1 hown1 hg1)
      go_roundw
      case rel => exact ⟨j + 1, m + n', by omega, by go_num, by rw [E.out]; exact hown1, hbel.grown hg1 hbel.size (fun g hg => (hown.lt g hg).1)⟩
      case measure => simp [intOf]; omega
    · obtain rfl : j = n := by omega
      have e := cats_all xss j h.len
      rw [e] at hown
      clear e
      go_wp2
      go_ret
      exact New.mk hown hbel
end Go.Proofs.YtdbamdbdogdpjaaGreatDoor
