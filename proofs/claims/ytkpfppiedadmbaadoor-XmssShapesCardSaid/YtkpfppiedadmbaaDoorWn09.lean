/-
  Texts put together: Tool, Cat, RPut, WpR1, WpR2, WpR3, WpR4, WpR5, WpR6, WpR7, WpB, WpR8. No statement is proved here.
-/
import Derived.Test.YtkpfppiedadmbaaDoorWn08
import Derived.Lib.SlBytesConst
import Derived.Test.YtkpfppiedadmbaaDoorWn02
import Derived.OwnWalk
import Derived.Deep.RegionHeld3
import Derived.Deep.Cut
import Derived.Deep.AppendLies

/-
  Words for calls that stand in a row. Plain lemmas, no statement is proved here.
-/
namespace Go.Proofs.YtkpfppiedadmbaaDoor
set_option linter.unusedSimpArgs false
set_option linter.unusedVariables false
set_option maxRecDepth 1024
open Go.RowKit

theorem new_len {B : Nat} {w w' : World} {xs : List UInt8} {e : Ending} (h : New B w xs e w') : ∃ (A : Option Addr) (c : Nat), e = .returned (.slice A xs.length c) ∧ Rd w' A xs.length c xs ∧ Below B w w' := by
  obtain ⟨A, n, c, he, ho, hb⟩ := h
  have hl := own_len ho
  subst hl
  exact ⟨A, c, he, Rd.own ho, hb⟩
theorem rd_markAt (w : World) (vs : Array Value) (xs : List UInt8) (fr : Nat × Nat) (b : Nat) (hb : w.heap.size = b) (h : vs.toList = bv xs) (hm : xs.length ≤ maxLen) : Rd (w.alloc (.cells vs 5 fr)) (some ⟨b, 0, none⟩) xs.length xs.length xs := by
  subst hb
  obtain ⟨vs⟩ := vs
  simp only at h
  subst h
  refine ⟨rfl, Nat.le_refl _, hm, (fun e => by cases e), fun hn => ⟨w.heap.size, 0, rfl, by simp, fun j hj => ?_⟩⟩
  rw [cell_of_row _ _ _ _ _ fr (heap_alloc_new w _), Nat.zero_add]
  exact bv_getElem? _ _ hj
theorem rd_mark (w : World) (vs : Array Value) (xs : List UInt8) (fr : Nat × Nat) (h : vs.toList = bv xs) (hm : xs.length ≤ maxLen) : Rd (w.alloc (.cells vs 5 fr)) (some ⟨w.heap.size, 0, none⟩) xs.length xs.length xs := rd_markAt w vs xs fr _ rfl h hm
theorem RdBs.built2At (w : World) (b : Nat) (hb : w.heap.size = b) (T : TypeId) {A A' : Option Addr} {n c n' c' : Nat} {xs ys : List UInt8} (h : Rd w A n c xs) (h' : Rd w A' n' c' ys) :
    RdBs (w.alloc (.cells #[.slice A n c, .slice A' n' c'] T)) (some ⟨b, 0, none⟩) 2 2 [xs, ys] := by subst hb; exact RdBs.built2 w T h h'
theorem own_below {w w' : World} {B e size n : Nat} {v : Value} {xs : List Value} (h : w.ownsRow B e size v n xs) (hb : Below w.heap.size w w') : w'.ownsRow B e size v n xs := by
  refine ⟨h.1, ?_⟩
  rcases h.2 with h | ⟨g, cap, cur, h1, h2, h3, h4⟩
  · exact .inl h
  · exact .inr ⟨g, cap, cur, h1, h2, (hb.block g (Array.getElem?_eq_some_iff.1 h3).1).trans h3, h4⟩
theorem own_base {w : World} {B B' e size n : Nat} {v : Value} {xs : List Value} (h : w.ownsRow B e size v n xs) (hB : B' ≤ B) : w.ownsRow B' e size v n xs := by
  refine ⟨h.1, ?_⟩
  rcases h.2 with h | ⟨g, cap, cur, h1, h2, h3⟩
  · exact .inl h
  · exact .inr ⟨g, cap, cur, h1, Nat.le_trans hB h2, h3⟩
theorem own_only {w w' : World} {B e size n g : Nat} {v : Value} {xs : List Value} (h : w.ownsRow B e size v n xs) (hb : w.grownBy w' (some g)) (hg : v.ownBlock ≠ some g) : w'.ownsRow B e size v n xs := by
  refine ⟨h.1, ?_⟩
  rcases h.2 with h | ⟨b, cap, cur, h1, h2, h3, h4⟩
  · exact .inl h
  · refine .inr ⟨b, cap, cur, h1, h2, (hb.block b (Array.getElem?_eq_some_iff.1 h3).1 ?_).trans h3, h4⟩
    rw [h1] at hg
    simpa [Value.ownBlock] using hg
theorem own_keep {w w' : World} {B e size n b c : Nat} {row : Option Nat} {xs : List Value} (h : w.ownsRow B e size (.slice (some ⟨b, 0, none⟩) n c) n xs) (hg : w.grownBy w' row) (hb : row ≠ some b) : w'.ownsRow B e size (.slice (some ⟨b, 0, none⟩) n c) n xs := by
  refine ⟨h.1, ?_⟩
  rcases h.2 with h | ⟨g, cap, cur, h1, h2, h3, h4⟩
  · exact .inl h
  · have hgb : g = b := by injection h1 with e _ _; injection e with e; injection e with e; exact e.symm
    subst hgb
    exact .inr ⟨g, cap, cur, h1, h2, (hg.block g (Array.getElem?_eq_some_iff.1 h3).1 (fun e => hb e.symm)).trans h3, h4⟩
theorem own_free {w : World} {B e size n g : Nat} {v : Value} {xs : List Value} (h : w.ownsRow B e size v n xs) (hg : g < B) : v.ownBlock ≠ some g := fun e => by have := (h.lt g e).1; omega
theorem own_n {w : World} {B e n : Nat} {v : Value} {xs : List UInt8} (h : w.ownsRow B e 1 v (0 + n) (bv ([] ++ xs))) : w.ownsRow B e 1 v n (bv xs) := by simpa using h
theorem u8_inc (x : UInt8) : IntKind.u8.wrap ((x.toNat : Int) + 1) = ((x + 1).toNat : Int) := by
  rw [IntKind.wrap_u8', UInt8.toNat_add]
  have : (1 : UInt8).toNat = 1 := rfl
  omega
theorem run_cutSl {A : Option Addr} {n c k : Nat} {l : Int} (hl : l = k) (hk : k ≤ n) (W : World) :
    (Instr.slice 29 (.slice A n c) (some (.int .i64 l)) none none).run Tryd.prog W = .ok (.slice (if c = k then A else A.map (·.add k)) (n - k) (c - k)) W := by
  have ee : Tryd.prog.elem 29 = 5 := by kernel_rfl
  have hs : (sizeOf 5).run Tryd.prog W = .ok 1 W := by kernel_rfl
  subst hl
  rw [run_slice_l W 29 A n c (by rw [ee]; exact Tryd.underlying29) .i64 k (by omega) (by omega), ee, hs]
  simp [Result.andThen, sliced]
theorem run_cutSlAt {A : Option Addr} {n c k : Nat} {l : Int} (hl : l = k) (hk : k ≤ n) (W : World) :
    (Instr.sliceAt 29 (.slice A n c) (some (.int .i64 l)) none none).run Tryd.prog W = .ok (.slice (if c = k then A else A.map (·.add k)) (n - k) (c - k)) W := by
  have ee : Tryd.prog.elem 29 = 5 := by kernel_rfl
  rw [run_sliceAt_slice W 29 _ _ _ _ (by rw [ee]; exact Tryd.underlying29)]
  exact run_cutSl hl hk W
theorem run_cutSlLH {A : Option Addr} {n c l' m : Nat} {l h : Int} (hl : l = l') (hh : h = l' + m) (hk : l' + m ≤ c) (W : World) :
    (Instr.slice 29 (.slice A n c) (some (.int .i64 l)) (some (.int .i64 h)) none).run Tryd.prog W = .ok (.slice (if c = l' then A else A.map (·.add l')) m (c - l')) W := by
  have ee : Tryd.prog.elem 29 = 5 := by kernel_rfl
  have hs : (sizeOf 5).run Tryd.prog W = .ok 1 W := by kernel_rfl
  have e1 : h.toNat - l' = m := by omega
  have e2 : l.toNat = l' := by omega
  rw [run_slice_lh W 29 A n c (by rw [ee]; exact Tryd.underlying29) .i64 .i64 l h (by omega) (by omega) (by omega), ee, hs]
  simp only [Result.andThen, sliced, Nat.mul_one, e2, e1]
theorem run_cutSlLHAt {A : Option Addr} {n c l' m : Nat} {l h : Int} (hl : l = l') (hh : h = l' + m) (hk : l' + m ≤ c) (W : World) :
    (Instr.sliceAt 29 (.slice A n c) (some (.int .i64 l)) (some (.int .i64 h)) none).run Tryd.prog W = .ok (.slice (if c = l' then A else A.map (·.add l')) m (c - l')) W := by
  have ee : Tryd.prog.elem 29 = 5 := by kernel_rfl
  rw [run_sliceAt_slice W 29 _ _ _ _ (by rw [ee]; exact Tryd.underlying29)]
  exact run_cutSlLH hl hh hk W
theorem run_cutSlH {A : Option Addr} {n c m : Nat} {h : Int} (hh : h = (m : Nat)) (hk : m ≤ c) (W : World) :
    (Instr.slice 29 (.slice A n c) none (some (.int .i64 h)) none).run Tryd.prog W = .ok (.slice A m c) W := by
  have ee : Tryd.prog.elem 29 = 5 := by kernel_rfl
  have hs : (sizeOf 5).run Tryd.prog W = .ok 1 W := by kernel_rfl
  subst hh
  rw [run_slice_h W 29 A n c (by rw [ee]; exact Tryd.underlying29) .i64 (m : Int) (by omega) (by omega), ee, hs]
  simp only [Result.andThen, sliced, Nat.mul_one, Int.toNat_natCast, Nat.sub_zero]
  have : A.map (·.add 0) = A := by cases A <;> simp [Addr.add]
  rw [this]
  split <;> rfl
theorem run_cutSlHAt {A : Option Addr} {n c m : Nat} {h : Int} (hh : h = (m : Nat)) (hk : m ≤ c) (W : World) :
    (Instr.sliceAt 29 (.slice A n c) none (some (.int .i64 h)) none).run Tryd.prog W = .ok (.slice A m c) W := by
  have ee : Tryd.prog.elem 29 = 5 := by kernel_rfl
  rw [run_sliceAt_slice W 29 _ _ _ _ (by rw [ee]; exact Tryd.underlying29)]
  exact run_cutSlH hh hk W
end Go.Proofs.YtkpfppiedadmbaaDoor

/-
  What octet.Cat does.
-/
namespace Go.Proofs.YtkpfppiedadmbaaDoor
set_option linter.unusedSimpArgs false
set_option linter.unusedVariables false
set_option maxRecDepth 1024
open Go.RowKit

/-- The first k rows, one behind the other; how many bytes they have. -/
def cats (xss : List (List UInt8)) (k : Nat) : List UInt8 := (xss.take k).flatten
def tot (xss : List (List UInt8)) (k : Nat) : Nat := (cats xss k).length
theorem cats_succ (xss : List (List UInt8)) (k : Nat) (hk : k < xss.length) : cats xss (k + 1) = cats xss k ++ (xss[k]?.getD []) := by
  unfold cats
  rw [List.take_succ_eq_append_getElem hk, List.getElem?_eq_getElem hk, List.flatten_append, List.flatten_singleton, Option.getD_some]
theorem cats_all (xss : List (List UInt8)) (k : Nat) (hk : xss.length = k) : cats xss k = xss.flatten := by unfold cats; rw [List.take_of_length_le (by omega)]
theorem tot_succ (xss : List (List UInt8)) (k : Nat) (hk : k < xss.length) : tot xss (k + 1) = tot xss k + (xss[k]?.getD []).length := by
  unfold tot; rw [cats_succ xss k hk, List.length_append]
theorem tot_le (xss : List (List UInt8)) (k : Nat) : tot xss k ≤ xss.flatten.length := by
  have h := congrArg List.length (congrArg List.flatten (List.take_append_drop k xss))
  rw [List.flatten_append, List.length_append] at h
  unfold tot cats
  omega

set_option maxHeartbeats 1000000 in
theorem cat_any (A : Option Addr) (n c : Nat) (xss : List (List UInt8)) (w : World) (h : RdBs w A n c xss) (ht : xss.flatten.length ≤ 140737488355328) :
    Calls Tryd.prog 25 #[.slice A n c] w (New w.heap.size w xss.flatten) := by
  obtain ⟨i0, hi, hz0, hz1, hz2⟩ := info_parts Tryd.infoU8
  have l1 : n ≤ maxLen := Nat.le_trans h.cap h.max
  unfold maxLen at l1
  go_enter Tryd.func25, Tryd.ntmps25
  go_wp2
  go_loop [3, 11] (fun s i => ∃ k : Nat, k ≤ n ∧ i = .int .i64 (k : Int) ∧ s = .int .i64 (tot xss k : Nat)) (fun _ i => n - (intOf i).toNat)
  case atStart => exact ⟨0, Nat.zero_le _, rfl, rfl⟩
  case round =>
    obtain ⟨k, hk, rfl, rfl⟩ := hrel
    by_cases hlt : k < n
    · obtain ⟨b, off, rfl, hb, hcell⟩ := h.at_ (by omega)
      obtain ⟨A', n', c', hc, hr⟩ := hcell k hlt
      have e1 := tot_succ xss k (by have := h.len; omega)
      have e2 := tot_le xss (k + 1)
      have e3 : tot xss k + n' ≤ 140737488355328 := by rw [hr.len] at e1; omega
      have E := Lib.hid e1
      have El := Lib.hid hr.len
      clear hcell e1 e2 hr
      go_wp2
      go_round
      case rel => exact ⟨k + 1, by omega, by go_num, by rw [E.out, El.out]; go_num⟩
      case measure => simp [intOf]; omega
    · obtain rfl : k = n := by omega
      obtain ⟨T, hT⟩ : ∃ T, T = tot xss k := ⟨_, rfl⟩
      rw [← hT]
      have ht' : T ≤ 140737488355328 := by have := tot_le xss k; omega
      have HT := Lib.hid hT
      clear hT
      go_wp2_with (at_make; refine wpList_make_own _ rfl _ _ 29 rfl w.heap.size 5 i0 (.int .u8 0) 1 Tryd.underlying29 hi hz0 hz1 _ _ _ T rfl rfl (by omega) (by rw [hz2]; omega) (by unfold maxLen; omega) (Nat.le_refl _) ?_)
      intro w0 hown0 hgrow0
      have hb0 : Below w.heap.size w w0 := (Below.refl _ _).grown hgrow0 (Nat.le_refl _) (fun k h => by cases h)
      clear hgrow0
      go_wp2
      go_loopw [6, 24] (fun out i wr => ∃ j m : Nat, j ≤ k ∧ i = .int .i64 (j : Int) ∧ wr.ownsRow w.heap.size 5 1 out m (bv (cats xss j)) ∧ Below w.heap.size w wr) (fun _ i _ => k - (intOf i).toNat)
      case atStart => exact ⟨0, 0, Nat.zero_le _, rfl, by simpa [bv, cats] using hown0, hb0⟩
      case round =>
        obtain ⟨j, m, hj, rfl, hown, hbel⟩ := hrel
        by_cases hlt : j < k
        · obtain ⟨b, off, rfl, hb, hcell⟩ := (h.below hbel).at_ (by omega)
          obtain ⟨A', n', c', hc, hr⟩ := hcell j hlt
          have e1 := cats_succ xss j (by have := h.len; omega)
          have e2 := tot_le xss (j + 1)
          have hm := own_len hown
          have e3 : m + n' ≤ 140737488355328 := by unfold tot at e2; rw [e1, List.length_append, hr.len] at e2; omega
          have E := Lib.hid e1
          clear hcell e1 e2 hm
          go_wp2_with (at_builtin; refine append_rd rfl _ _ rfl w.heap.size _ m _ rfl hown A' n' c' _ rfl hr e3 hbel.size ?_; intro v' w1 hown1 hg1)
          go_roundw
          case rel => exact ⟨j + 1, m + n', by omega, by go_num, by rw [E.out]; exact hown1, hbel.grown hg1 hbel.size (fun g hg => (hown.lt g hg).1)⟩
          case measure => simp [intOf]; omega
        · obtain rfl : j = k := by omega
          have e := cats_all xss j h.len
          rw [e] at hown
          clear e
          go_wp2
          go_ret
          exact New.mk hown hbel
/-- Three rows that are written out. -/
theorem RdBs.built3 (w : World) (T : TypeId) {A A' A'' : Option Addr} {n c n' c' n'' c'' : Nat} {xs ys zs : List UInt8} (h : Rd w A n c xs) (h' : Rd w A' n' c' ys) (h'' : Rd w A'' n'' c'' zs) :
    RdBs (w.alloc (.cells #[.slice A n c, .slice A' n' c', .slice A'' n'' c''] T)) (some ⟨w.heap.size, 0, none⟩) 3 3 [xs, ys, zs] :=
  RdBs.built w _ T [xs, ys, zs] (by simp [maxLen]) fun j hj => by
    match j, hj with
    | 0, _ => exact ⟨A, n, c, rfl, h⟩
    | 1, _ => exact ⟨A', n', c', rfl, h'⟩
    | 2, _ => exact ⟨A'', n'', c'', rfl, h''⟩
end Go.Proofs.YtkpfppiedadmbaaDoor

/-
  What the document's own Put and Cat do, of layer 1; append, and where what is appended lies. No statement is proved here.
-/
namespace Go.Proofs.YtkpfppiedadmbaaDoor
set_option linter.unusedSimpArgs false
set_option linter.unusedVariables false
set_option maxRecDepth 1024
open Go.RowKit

/-- append; where the new row lies. -/
theorem append_rdA {w : World} {ops : Array Oper} {rest : List Oper} {o : Oper} {a : Act} {Q : Exit → Act → World → Prop} (hgd : o.guard = none) (s x : Operand)
    (ho : o.op = .call { callee := .builtin .append, args := #[s, x], argTypes := #[29, 29] })
    (base : Nat) (v : Value) (n : Nat) (xs : List UInt8) (hs : a.eval s = v) (hown : w.ownsRow base 5 1 v n (bv xs))
    (A : Option Addr) (m c : Nat) (ys : List UInt8) (hx : a.eval x = .slice A m c) (hr : Rd w A m c ys) (hb : n + m ≤ 140737488355328) (hbase : base ≤ w.heap.size)
    (h : ∀ v' w', w'.ownsRow base 5 1 v' (n + m) (bv (xs ++ ys)) → w.grownBy w' v.ownBlock → (v'.ownBlock = v.ownBlock ∨ v'.ownBlock = some w.heap.size) → wpList Tryd.prog ops Q rest (a.put o.dst v') w') :
    wpList Tryd.prog ops Q (o :: rest) a w :=
  wpList_plain hgd fun K hK => by
    have := step_append_rd (ops := ops) (o := o) (a := a) (K := K) (Q := Q) (E := True) (by simp [Region.wanted, hgd]) s x ho base v n xs hs hown A m c ys hx hr hb hbase (fun v' w' h1 h2 h3 => hK _ _ (h v' w' h1 h2 h3))
    rwa [if_pos (by simp [Region.wanted, hgd])] at this
/-- append where it is guarded. -/
theorem append_zz {w : World} {ops : Array Oper} {rest : List Oper} {o : Oper} {a : Act} {Q : Exit → Act → World → Prop} (hw : Region.wanted o (yielded ops a.tmps) = true) (s x : Operand)
    (ho : o.op = .call { callee := .builtin .append, args := #[s, x], argTypes := #[29, 29] })
    (base : Nat) (v : Value) (n : Nat) (xs : List UInt8) (hs : a.eval s = v) (hown : w.ownsRow base 5 1 v n (bv xs))
    (A : Option Addr) (m c : Nat) (ys : List UInt8) (hx : a.eval x = .slice A m c) (hr : Rd w A m c ys) (hb : n + m ≤ 140737488355328) (hbase : base ≤ w.heap.size)
    (h : ∀ v' w', w'.ownsRow base 5 1 v' (n + m) (bv (xs ++ ys)) → w.grownBy w' v.ownBlock → wpList Tryd.prog ops Q rest (a.put o.dst v') w') :
    wpList Tryd.prog ops Q (o :: rest) a w := by
  unfold wpList
  rw [if_pos hw]
  left
  have := step_append_rd (ops := ops) (o := o) (a := a) (K := wpList Tryd.prog ops Q rest) (Q := Q) (E := True) hw s x ho base v n xs hs hown A m c ys hx hr hb hbase (fun v' w' h1 h2 _ => h v' w' h1 h2)
  rwa [if_pos hw] at this
theorem own_apart {w w' : World} {B e size n : Nat} {v : Value} {xs : List Value} {row : Option Nat} (h : w.ownsRow B e size v n xs) (hg : w.grownBy w' row) (hb : ∀ g, v.ownBlock = some g → row ≠ some g) : w'.ownsRow B e size v n xs := by
  refine ⟨h.1, ?_⟩
  rcases h.2 with h | ⟨g, cap, cur, h1, h2, h3, h4⟩
  · exact .inl h
  · refine .inr ⟨g, cap, cur, h1, h2, ?_, h4⟩
    have hlt : g < w.heap.size := by
      rcases Nat.lt_or_ge g w.heap.size with h | h
      · exact h
      · rw [Array.getElem?_eq_none h] at h3; cases h3
    rw [hg.block g hlt (fun e => hb g (by rw [h1]; rfl) e.symm)]
    exact h3
theorem own_byte (w : World) (B q : Nat) (hB : B ≤ w.heap.size) :
    (w.alloc (.cells #[.int .u8 ((q : Int) % 256)] 5)).ownsRow B 5 1 (.slice (some ⟨w.heap.size, 0, none⟩) 1 1) 1 (bv [UInt8.ofNat q]) := by
  have := own_lit_u8 w B [UInt8.ofNat q] hB (by simp [maxLen])
  simpa [bv] using this
theorem rput_next (V k : Nat) (hV : V < 18446744073709551616) : Value.int .u64 (IntKind.u64.wrap (((V / 256 ^ k : Nat) : Int) / 256)) = .int .u64 ((V / 256 ^ (k + 1) : Nat) : Int) := by
  have h := Nat.div_le_self V (256 ^ k)
  rw [Nat.pow_succ, ← Nat.div_div_eq_div_mul, IntKind.wrap_u64]
  generalize V / 256 ^ k = q at h ⊢
  congr 1
  omega
theorem putL_succ (V k q : Nat) (hq : q = V / 256 ^ k) : putL V (k + 1) = [UInt8.ofNat q] ++ putL V k := by rw [hq]; rfl
end Go.Proofs.YtkpfppiedadmbaaDoor

/-
  What the document's own sums with masks do: word, xor, Num, Prf, Bytes, F, H of layer 14. No statement is proved here. (Written by genwp1.py.)
-/
namespace Go.Proofs.YtkpfppiedadmbaaDoor.S15
set_option linter.unusedSimpArgs false
set_option linter.unusedVariables false
set_option maxRecDepth 1024
open Go.RowKit

/-- An address's value; its numbers are of 32 and of 64 bits. -/
def adV (A : Ad) : Value := .agg #[.int .u32 (A.layer : Int), .int .u64 (A.tree : Int), .int .u32 (A.kind : Int), .int .u32 (A.a : Int), .int .u32 (A.b : Int), .int .u32 (A.c : Int)]
structure Ad.Ok (A : Ad) : Prop where
  layer : A.layer < 4294967296
  tree : A.tree < 18446744073709551616
  kind : A.kind < 4294967296
  a : A.a < 4294967296
  b : A.b < 4294967296
  c : A.c < 4294967296
theorem new_of {B : Nat} {w w' : World} {xs : List UInt8} {e : Ending} (h : New B w xs e w') : ∃ (A : Option Addr) (c : Nat), e = .returned (.slice A xs.length c) ∧ w'.ownsRow B 5 1 (.slice A xs.length c) xs.length (bv xs) ∧ Below B w w' := by
  obtain ⟨A, n, c, rfl, ho, hb⟩ := h
  obtain rfl := own_len ho
  exact ⟨A, c, rfl, ho, hb⟩
theorem xr_succ (xs ys : List UInt8) (j : Nat) (hx : j < xs.length) (hy : j < ys.length) : (xr xs ys).take (j + 1) = (xr xs ys).take j ++ [xs.getD j 0 ^^^ ys.getD j 0] := by
  have hl : j < (xr xs ys).length := by simp [xr]; omega
  rw [List.take_add_one, List.getElem?_eq_getElem hl]
  simp [xr, List.getD, List.getElem?_eq_getElem hx, List.getElem?_eq_getElem hy]
end Go.Proofs.YtkpfppiedadmbaaDoor.S15

/-
  What the document's own Num and Prf of layer 14 do. No statement is proved here. (Written by genwp1.py.)
-/
namespace Go.Proofs.YtkpfppiedadmbaaDoor.S15
set_option linter.unusedSimpArgs false
set_option linter.unusedVariables false
set_option maxRecDepth 1024
open Go.RowKit

theorem b32_set (k : UInt8) : (List.replicate 32 (0 : UInt8)).set 31 k = b32 k := by
  unfold b32
  rfl
theorem RdBs.built3At (w : World) (b : Nat) (hb : w.heap.size = b) (T : TypeId) {A A' A'' : Option Addr} {n c n' c' n'' c'' : Nat} {xs ys zs : List UInt8} (h : Rd w A n c xs) (h' : Rd w A' n' c' ys) (h'' : Rd w A'' n'' c'' zs) :
    RdBs (w.alloc (.cells #[.slice A n c, .slice A' n' c', .slice A'' n'' c''] T)) (some ⟨b, 0, none⟩) 3 3 [xs, ys, zs] := by
  subst hb
  exact RdBs.built3 w T h h' h''
end Go.Proofs.YtkpfppiedadmbaaDoor.S15

/-
  What the document's own Bytes of layer 14 does. No statement is proved here. (Written by genwp2.py.)
-/
namespace Go.Proofs.YtkpfppiedadmbaaDoor.S15
set_option linter.unusedSimpArgs false
set_option linter.unusedVariables false
set_option maxRecDepth 1024
open Go.RowKit

abbrev adA (D : Ad) : Array Value := #[.int .u32 (D.layer : Int), .int .u64 (D.tree : Int), .int .u32 (D.kind : Int), .int .u32 (D.a : Int), .int .u32 (D.b : Int), .int .u32 (D.c : Int)]
theorem ad_cells {w' : World} {g : Nat} {T : TypeId} {D : Ad} (h : Bk w' g T (adA D)) : w'.cell? ⟨g, 0, none⟩ = some (.int .u32 (D.layer : Int)) ∧ w'.cell? ⟨g, 1, none⟩ = some (.int .u64 (D.tree : Int)) ∧ w'.cell? ⟨g, 2, none⟩ = some (.int .u32 (D.kind : Int)) ∧ w'.cell? ⟨g, 3, none⟩ = some (.int .u32 (D.a : Int)) ∧ w'.cell? ⟨g, 4, none⟩ = some (.int .u32 (D.b : Int)) ∧ w'.cell? ⟨g, 5, none⟩ = some (.int .u32 (D.c : Int)) :=
  ⟨h.cell 0, h.cell 1, h.cell 2, h.cell 3, h.cell 4, h.cell 5⟩
theorem RdBs.built7 (w : World) (T : TypeId) {A1 A2 A3 A4 A5 A6 A7 : Option Addr} {n1 c1 n2 c2 n3 c3 n4 c4 n5 c5 n6 c6 n7 c7 : Nat} {x1 x2 x3 x4 x5 x6 x7 : List UInt8} (h1 : Rd w A1 n1 c1 x1) (h2 : Rd w A2 n2 c2 x2) (h3 : Rd w A3 n3 c3 x3) (h4 : Rd w A4 n4 c4 x4) (h5 : Rd w A5 n5 c5 x5) (h6 : Rd w A6 n6 c6 x6) (h7 : Rd w A7 n7 c7 x7) :
    RdBs (w.alloc (.cells #[.slice A1 n1 c1, .slice A2 n2 c2, .slice A3 n3 c3, .slice A4 n4 c4, .slice A5 n5 c5, .slice A6 n6 c6, .slice A7 n7 c7] T)) (some ⟨w.heap.size, 0, none⟩) 7 7 [x1, x2, x3, x4, x5, x6, x7] :=
  RdBs.built w _ T [x1, x2, x3, x4, x5, x6, x7] (by simp [maxLen]) fun j hj => by
    match j, hj with
    | 0, _ => exact ⟨A1, n1, c1, rfl, h1⟩
    | 1, _ => exact ⟨A2, n2, c2, rfl, h2⟩
    | 2, _ => exact ⟨A3, n3, c3, rfl, h3⟩
    | 3, _ => exact ⟨A4, n4, c4, rfl, h4⟩
    | 4, _ => exact ⟨A5, n5, c5, rfl, h5⟩
    | 5, _ => exact ⟨A6, n6, c6, rfl, h6⟩
    | 6, _ => exact ⟨A7, n7, c7, rfl, h7⟩
end Go.Proofs.YtkpfppiedadmbaaDoor.S15

/-
  What the document's own F and H of layer 14 do, of rows of 32 bytes. No statement is proved here. (Written by genwp3.py.)
-/
namespace Go.Proofs.YtkpfppiedadmbaaDoor.S15
set_option linter.unusedSimpArgs false
set_option linter.unusedVariables false
set_option maxRecDepth 1024
open Go.RowKit

theorem adB_len (D : Ad) (k : Nat) : (adB D k).length = 32 := by simp [adB, putL_length]
theorem xr_len {xs ys : List UInt8} (h : xs.length = 32) (h' : ys.length = 32) : (xr xs ys).length = 32 := by simp [xr, h, h']
theorem prf_len (key text : List UInt8) : (prfL key text).length = 32 := num_len _ _ _
end Go.Proofs.YtkpfppiedadmbaaDoor.S15

/-
  What the document's own H of layer 14 do, of rows of 32 bytes. No statement is proved here. (Written by genwp3.py.)
-/
namespace Go.Proofs.YtkpfppiedadmbaaDoor.S15
set_option linter.unusedSimpArgs false
set_option linter.unusedVariables false
set_option maxRecDepth 1024
open Go.RowKit

end Go.Proofs.YtkpfppiedadmbaaDoor.S15

/-
  What the document's own chain of layer 15 does: x gone up, and a chain's secret. No statement is proved here.
-/
namespace Go.Proofs.YtkpfppiedadmbaaDoor.S15
set_option linter.unusedSimpArgs false
set_option linter.unusedVariables false
set_option maxRecDepth 1024
open Go.RowKit

/-- The address of a step. -/
abbrev stp (D : Ad) (i j : Nat) : Ad := { D with kind := 0, b := i, c := j }
theorem up_next (sd : List UInt8) (D : Ad) (i j n : Nat) (x : List UInt8) (h : 0 < n) : upL sd D i j n x = upL sd D i (j + 1) (n - 1) (fL sd (stp D i j) x) := by
  obtain ⟨m, rfl⟩ : ∃ m, n = m + 1 := ⟨n - 1, by omega⟩
  rfl
theorem f_len (sd : List UInt8) (D : Ad) (x : List UInt8) : (fL sd D x).length = 32 := num_len _ _ _
/-- A row of bytes lies in no address. -/
theorem rd_farAd {w : World} {g : Nat} {T : TypeId} {D : Ad} {A : Option Addr} {n c : Nat} {xs : List UInt8} (h : Rd w A n c xs) (hG : Bk w g T (adA D)) (i : Nat) (u : Value) : Rd (w.setCell ⟨g, i, none⟩ u) A n c xs := by
  refine ⟨h.len, h.cap, h.max, h.nil, fun hn => ?_⟩
  obtain ⟨b, off, rfl, hb, hc⟩ := h.at_ hn
  have hne : b ≠ g := by
    rintro rfl
    have h0 := hc 0 hn
    rw [hG.cell] at h0
    rcases off with _ | _ | _ | _ | _ | _ | o <;> simp at h0
  exact ⟨b, off, rfl, by simpa [World.setCell] using hb, fun j hj => (World.cell?_of_block (Below.heap_setCell w ⟨g, i, none⟩ u b hne)).trans (hc j hj)⟩
end Go.Proofs.YtkpfppiedadmbaaDoor.S15

/-
  What the document's own secret of a chain of layer 15 does. No statement is proved here.
-/
namespace Go.Proofs.YtkpfppiedadmbaaDoor.S15
set_option linter.unusedSimpArgs false
set_option linter.unusedVariables false
set_option maxRecDepth 1024
open Go.RowKit

/-- A masked key's cells. -/
abbrev mkA (As : Option Addr) (ns cs : Nat) (Al : Option Addr) (nl cl : Nat) (Ad' : Option Addr) (nd cd : Nat) : Array Value := #[.slice As ns cs, .slice Al nl cl, .slice Ad' nd cd]
/-- What lies in a made row of 32 bytes, its last written. -/
theorem made32 (w : World) (mc : Array Value) (hm : mc.toList = bv (List.replicate 32 0)) (k : Nat) (hk : k < 256) (b : Nat) (hb : w.heap.size = b) :
    (w.alloc (.cells mc 5)).cell? ⟨b, 31, none⟩ = some (.int .u8 0) ∧ (w.alloc (.cells mc 5)).frozen? ⟨b, 31, none⟩ = false ∧
      Rd (w.alloc (.cells (mc.setIfInBounds 31 (.int .u8 (k : Int))) 5)) (some ⟨b, 0, none⟩) 32 32 (b32 (UInt8.ofNat k)) := by
  subst hb
  obtain ⟨mc⟩ := mc
  simp only at hm
  subst hm
  have ho := own_lit_u8 w w.heap.size (List.replicate 32 0) (Nat.le_refl _) (by simp [maxLen])
  simp only [List.length_replicate] at ho
  refine ⟨ho.cellAt 31 (by omega), ho.frozenAt 31, ?_⟩
  have e : ((UInt8.ofNat k).toNat : Int) = (k : Int) := by simp; omega
  have e1 : (bv (List.replicate 32 0)).toArray.setIfInBounds 31 (.int .u8 (k : Int)) = (bv (b32 (UInt8.ofNat k))).toArray := by
    rw [List.setIfInBounds_toArray, ← e, bv_set]
    rfl
  rw [e1]
  exact Rd.own (own_lit_u8 w w.heap.size (b32 (UInt8.ofNat k)) (Nat.le_refl _) (by simp [maxLen, b32]))
end Go.Proofs.YtkpfppiedadmbaaDoor.S15

/-
  Rows of 32 bytes that are put one behind another in a new slice of rows. No statement is proved here.
-/
namespace Go.Proofs.YtkpfppiedadmbaaDoor.S15
set_option linter.unusedSimpArgs false
set_option linter.unusedVariables false
set_option maxRecDepth 1024
open Go.RowKit

theorem Tryd.infoRows : (Tryd.prog.info? 29).map (fun i => (i.zero, i.size, i.bytes)) = some (some (.slice none 0 0), 1, 24) := by kernel_rfl
/-- v is a new slice of k rows of 32 bytes that read as xss, none of them in its own block. -/
structure Rows (w : World) (B : Nat) (v : Value) (k : Nat) (vs : List Value) (xss : List (List UInt8)) : Prop where
  own : w.ownsRow B 29 1 v k vs
  len : xss.length = k
  row : ∀ j, j < k → ∃ A c, vs[j]? = some (.slice A 32 c) ∧ Rd w A 32 c (xss[j]?.getD []) ∧ ∀ a, A = some a → v.ownBlock ≠ some a.block
section
variable {w w' : World} {B k : Nat} {v : Value} {vs : List Value} {xss : List (List UInt8)}
theorem Rows.nil_ (w : World) (B : Nat) : Rows w B (.slice none 0 0) 0 [] [] := ⟨World.ownsRow_nil _ _ _ _, rfl, fun j hj => absurd hj (by omega)⟩
theorem Rows.below (h : Rows w B v k vs xss) (hb : Below w.heap.size w w') : Rows w' B v k vs xss :=
  ⟨own_below h.own hb, h.len, fun j hj => by
    obtain ⟨A, c, h1, h2, h3⟩ := h.row j hj
    exact ⟨A, c, h1, h2.below hb, h3⟩⟩
theorem Rows.drew (h : Rows w B v k vs xss) : Rows w.drew B v k vs xss := h.below (Below.refl _ _).drew
theorem Rows.alloc (h : Rows w B v k vs xss) (o : Obj) : Rows (w.alloc o) B v k vs xss := h.below ((Below.refl _ _).alloc (Nat.le_refl _) o)
theorem Rows.form (h : Rows w B v k vs xss) : ∃ A c, v = .slice A k c := own_form h.own
/-- A field of an address is set. -/
theorem Rows.setAd {g : Nat} {T : TypeId} {D : Ad} (h : Rows w B v k vs xss) (hG : Bk w g T (adA D)) (hg : g < B) (i : Nat) (u : Value) : Rows (w.setCell ⟨g, i, none⟩ u) B v k vs xss :=
  ⟨ownsRow_setCell_below h.own hg u, h.len, fun j hj => by
    obtain ⟨A, c, h1, h2, h3⟩ := h.row j hj
    exact ⟨A, c, h1, rd_farAd h2 hG i u, h3⟩⟩
theorem rd_grown {row : Option Nat} {A : Option Addr} {n c : Nat} {xs : List UInt8} (h : Rd w A n c xs) (hn : 0 < n) (hg : w.grownBy w' row) (hne : ∀ a, A = some a → row ≠ some a.block) : Rd w' A n c xs := by
  refine ⟨h.len, h.cap, h.max, h.nil, fun _ => ?_⟩
  obtain ⟨b, off, rfl, hb, hc⟩ := h.at_ hn
  exact ⟨b, off, rfl, Nat.lt_of_lt_of_le hb hg.size, fun j hj => (World.cell?_of_block (hg.block b hb (fun e => hne _ rfl e.symm))).trans (hc j hj)⟩
/-- One row more. -/
theorem Rows.push (h : Rows w B v k vs xss) {g cap : Nat} {A : Option Addr} {c : Nat} {xs : List UInt8} (ho : w'.ownsRow B 29 1 (.slice (some ⟨g, 0, none⟩) (k + 1) cap) (k + 1) (vs ++ [.slice A 32 c])) (hg : w.grownBy w' v.ownBlock)
    (hw : v.ownBlock = some g ∨ g = w.heap.size) (hr : Rd w A 32 c xs) (hne : ∀ a, A = some a → v.ownBlock ≠ some a.block) : Rows w' B (.slice (some ⟨g, 0, none⟩) (k + 1) cap) (k + 1) (vs ++ [.slice A 32 c]) (xss ++ [xs]) := by
  have hvl : vs.length = k := by have := h.own.1; omega
  have hl := h.len
  have key : ∀ (A : Option Addr) (c : Nat) (xs : List UInt8), Rd w A 32 c xs → (∀ a, A = some a → v.ownBlock ≠ some a.block) → ∀ a, A = some a → (Value.slice (some ⟨g, 0, none⟩) (k + 1) cap).ownBlock ≠ some a.block := by
    intro A c xs hr hne a ha e
    have e1 : g = a.block := by simpa [Value.ownBlock] using e
    rcases hw with hw | hw
    · exact hne a ha (by rw [hw, e1])
    · obtain ⟨b, off, rfl, hb, _⟩ := hr.at_ (by omega)
      injection ha with ha
      subst ha
      simp at e1
      omega
  refine ⟨ho, by simp [hl], fun j hj => ?_⟩
  rcases Nat.lt_or_ge j k with h1 | h1
  · obtain ⟨A', c', h2, h3, h4⟩ := h.row j h1
    refine ⟨A', c', by rw [List.getElem?_append_left (by omega)]; exact h2, ?_, key _ _ _ h3 h4⟩
    rw [List.getElem?_append_left (by omega)]
    exact rd_grown h3 (by omega) hg h4
  · obtain rfl : j = k := by omega
    refine ⟨A, c, by rw [← hvl]; simp, ?_, key _ _ _ hr hne⟩
    rw [← hl]
    simpa using rd_grown hr (by omega) hg hne
/-- They are read. -/
theorem Rows.read {A : Option Addr} {c : Nat} (h : Rows w B (.slice A k c) k vs xss) : RdBs w A k c xss := by
  have hl : vs.length = k := by have := h.own.1; omega
  have hl' := h.len
  rcases h.own.2 with ⟨h1, hn⟩ | ⟨g, cap, cur, h1, _, hh, hnc, hcm, _, htake⟩
  · injection h1 with h1 h2 h3
    subst h1 h2 h3
    have : xss = [] := List.eq_nil_of_length_eq_zero (by omega)
    subst this
    exact RdBs.nil_ w
  · have ho := h.own
    injection h1 with h1 h2 h3
    subst h1 h3
    refine ⟨hl', hnc, hcm, (fun h => by cases h), fun hn => ⟨g, 0, rfl, (Array.getElem?_eq_some_iff.1 hh).1, fun j hj => ?_⟩⟩
    obtain ⟨A', c', h2, h3, _⟩ := h.row j hj
    have := ho.cellAt j (by omega)
    exact ⟨A', 32, c', by rw [Nat.zero_add, this]; exact h2, h3⟩
/-- A row of a slice that is older lies in no new block. -/
theorem Rows.old (h : Rows w B v k vs xss) {A : Option Addr} {n c : Nat} {xs : List UInt8} {w0 : World} (hr : Rd w0 A n c xs) (hn : 0 < n) (hB : w0.heap.size ≤ B) : ∀ a, A = some a → v.ownBlock ≠ some a.block := by
  intro a ha e
  obtain ⟨b, off, rfl, hb, _⟩ := hr.at_ hn
  injection ha with ha
  subst ha
  have := (h.own.lt _ e).1
  simp at this
  omega
/-- A row that is newer lies not in the slice's own block. -/
theorem Rows.newer (h : Rows w B v k vs xss) {A : Option Addr} {n m c : Nat} {ys : List Value} {e : TypeId} (hr : w'.ownsRow w.heap.size e 1 (.slice A n c) m ys) : ∀ a, A = some a → v.ownBlock ≠ some a.block := by
  rintro a rfl e
  have h1 := (h.own.lt _ e).2
  have h2 := (hr.lt a.block rfl).1
  omega
end
end Go.Proofs.YtkpfppiedadmbaaDoor.S15

/-
  What the document's own sum of a leaf of layer 15 does. No statement is proved here.
-/
namespace Go.Proofs.YtkpfppiedadmbaaDoor.S15
set_option linter.unusedSimpArgs false
set_option linter.unusedVariables false
set_option maxRecDepth 1024
open Go.RowKit

/-- The address of a sum of two. -/
abbrev two (D : Ad) (g i : Nat) : Ad := { D with kind := 1, b := g, c := i }
theorem next_get (sd : List UInt8) (D : Ad) (g : Nat) : ∀ (i : Nat) (l : List (List UInt8)) (j : Nat), 2 * j < l.length →
    (nextL sd D g i l)[j]?.getD [] = if 2 * j + 1 < l.length then hL sd (two D g (i + j)) (l[2 * j]?.getD []) (l[2 * j + 1]?.getD []) else l[2 * j]?.getD []
  | _, [], j, h => by simp at h
  | i, [x], j, h => by
    obtain rfl : j = 0 := by simp at h; omega
    simp [nextL]
  | i, x :: y :: t, 0, _ => by simp [nextL]
  | i, x :: y :: t, j + 1, h => by
    have e := next_get sd D g (i + 1) t j (by simp at h; omega)
    simp only [nextL, List.getElem?_cons_succ, List.length_cons, show 2 * (j + 1) = 2 * j + 1 + 1 by omega, show i + (j + 1) = i + 1 + j by omega]
    rw [e]
    by_cases h1 : 2 * j + 1 < t.length
    · rw [if_pos h1, if_pos (by omega)]
    · rw [if_neg h1, if_neg (by omega)]
theorem next_same (sd : List UInt8) (D : Ad) (p q r g : Nat) : ∀ (i : Nat) (l : List (List UInt8)), nextL sd { D with kind := p, b := q, c := r } g i l = nextL sd D g i l
  | _, [] => rfl
  | _, [x] => rfl
  | i, x :: y :: t => by simp only [nextL, next_same sd D p q r g (i + 1) t]
theorem leafS_same (sd : List UInt8) (D : Ad) (p q r : Nat) : ∀ (f g : Nat) (l : List (List UInt8)), leafS sd { D with kind := p, b := q, c := r } f g l = leafS sd D f g l
  | 0, _, _ => rfl
  | f + 1, g, l => by simp only [leafS, next_same, leafS_same sd D p q r f]
theorem take_next {l : List (List UInt8)} {j : Nat} (h : j < l.length) : l.take (j + 1) = l.take j ++ [l[j]?.getD []] := by
  rw [List.take_add_one, List.getElem?_eq_getElem h]
  rfl
/-- What a call gives: a row of 32 bytes that reads so. -/
def Gives32 (w : World) (xs : List UInt8) (e : Ending) (w' : World) : Prop := ∃ (A : Option Addr) (c : Nat), e = .returned (.slice A 32 c) ∧ Rd w' A 32 c xs ∧ Below w.heap.size w w'
theorem leafS_one (sd : List UInt8) (D : Ad) (x : List UInt8) : ∀ (f g : Nat), leafS sd D f g [x] = x
  | 0, _ => rfl
  | f + 1, g => by simp [leafS]
theorem keep8 {w' : World} {G b o1 o2 : Nat} {T : TypeId} {D : Ad} {v1 v2 : Value} (h : Bk w' G T (adA D)) (h2 : w'.cell? ⟨b, o1, none⟩ = some v1 ∧ w'.cell? ⟨b, o2, none⟩ = some v2) : w'.cell? ⟨G, 0, none⟩ = some (.int .u32 (D.layer : Int)) ∧ w'.cell? ⟨G, 1, none⟩ = some (.int .u64 (D.tree : Int)) ∧ w'.cell? ⟨G, 2, none⟩ = some (.int .u32 (D.kind : Int)) ∧ w'.cell? ⟨G, 3, none⟩ = some (.int .u32 (D.a : Int)) ∧ w'.cell? ⟨G, 4, none⟩ = some (.int .u32 (D.b : Int)) ∧ w'.cell? ⟨G, 5, none⟩ = some (.int .u32 (D.c : Int)) ∧ w'.cell? ⟨b, o1, none⟩ = some v1 ∧ w'.cell? ⟨b, o2, none⟩ = some v2 := by
  obtain ⟨a, b, c, d, e, f⟩ := ad_cells h
  exact ⟨a, b, c, d, e, f, h2.1, h2.2⟩
end Go.Proofs.YtkpfppiedadmbaaDoor.S15
