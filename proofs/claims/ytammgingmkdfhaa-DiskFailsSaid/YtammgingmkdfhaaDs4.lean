/-
  What the library's Clone, Sort and BinarySearch do to rows. No statement is proved here.
-/
import Derived.Test.YtammgingmkdfhaaDsS
import Derived.Test.YtammgingmkdfhaaDk5
import Derived.Test.YtammgingmkdfhaaDk9
import Derived.Sort.OwnSortedInts
namespace Go.Proofs.Ytammgingmkdfhaa.S19
set_option linter.unusedSimpArgs false
set_option linter.unusedVariables false
set_option maxRecDepth 4096
open Go.RowKit

set_option maxHeartbeats 1000000 in
/-- slices.Clone of bytes: a row of the call's own. -/
theorem clone_bs (A : Option Addr) (n c : Nat) (xs : List UInt8) (w : World) (hr : Rd w A n c xs) (hn : n ≤ 140737488355328) :
    Calls Try.prog 30 #[.slice A n c] w fun e w' => ∃ A' c', e = .returned (.slice A' n c') ∧ w'.ownsRow w.heap.size 5 1 (.slice A' n c') n (bv xs) ∧ Below w.heap.size w w' := by
  have q : ∀ (w : World) (a : Option Addr) (n c n' c' : Nat), (binOp .eql 30 (.slice a n c) (.slice none n' c')).run Try.prog w = .ok (.bool a.isNone) w := fun w a n c n' c' => Lib.run_eql_slice_nil w _ _ a n c n' c' Try.underlying30
  rcases A with _ | ad
  · have hc := hr.nil rfl
    have hm : n = 0 := by have := hr.cap; omega
    subst hc hm
    obtain rfl : xs = [] := List.eq_nil_of_length_eq_zero hr.len
    go_enter Try.func30, Try.ntmps30
    go_wp2
    go_ret
    exact ⟨none, 0, rfl, ⟨rfl, .inl ⟨rfl, rfl⟩⟩, Below.refl _ _⟩
  · have R := Lib.hid hr
    have HN := Lib.hid hn
    clear hr hn
    go_enter Try.func30, Try.ntmps30
    go_wp2_with (at_builtin; refine append_rd rfl (.tmp 5) (.tmp 6) rfl w.heap.size _ 0 [] rfl (World.ownsRow_lit (base := w.heap.size) (e := 5) (size := 1) w #[] 0 (Nat.le_refl _) (by simp [maxLen]) rfl) (some ad) n c _ rfl (R.out.alloc _) (by have := HN.out; omega) (by simp) ?_; intro v5 w5 o5 g5; obtain ⟨A5, c5, rfl⟩ := own_form o5; have O5 := Lib.hid (own_n o5); have B5 := Lib.hid (((Below.refl w.heap.size w).alloc (Nat.le_refl _) _).grown g5 (by simp) (fun q hq => Nat.le_of_eq (Option.some.inj hq))); clear o5 g5)
    go_ret
    exact ⟨A5, c5, by simp, by simpa using O5.out, B5.out⟩
/-- append to a row of whole numbers. -/
theorem append_zr {w : World} {ops : Array Oper} {rest : List Oper} {o : Oper} {a : Act} {Q : Exit → Act → World → Prop} (hgd : o.guard = none) (s x : Operand)
    (ho : o.op = .call { callee := .builtin .append, args := #[s, x], argTypes := #[31, 31] })
    (base : Nat) (v : Value) (n : Nat) (xs : List Int) (hs : a.eval s = v) (hown : w.ownsRow base 3 1 v n (zv xs))
    (ad : Addr) (m c : Nat) (ys : List Int) (hx : a.eval x = .slice (some ad) m c) (hr : RI w .i64 (some ad) m c ys) (hb : n + m ≤ 2000000000000) (hbase : base ≤ w.heap.size)
    (h : ∀ v' w', w'.ownsRow base 3 1 v' (n + m) (zv (xs ++ ys)) → w.grownBy w' v.ownBlock → wpList Try.prog ops Q rest (a.put o.dst v') w') : wpList Try.prog ops Q (o :: rest) a w := by
  obtain ⟨i0, hi, hz0, hz1, hz2⟩ := info_parts Try.infoZ
  exact wpList_append_own w hgd s x _ ho base 3 i0 (.int .i64 0) 1 8 Try.underlying31 hi hz0 hz1 hz2 rfl (by omega) v n (zv xs) hs hown ad m c (zv ys) hx (by simp [zv_length, hr.len]) (news_zi hr) (zv_one _)
      (by simp only [maxLen]; omega) (by omega) hbase fun v' w' h1 h2 _ => h v' w' (by rw [zv_append]; exact h1) h2
set_option maxHeartbeats 1000000 in
/-- slices.Clone of whole numbers: a row of the call's own. -/
theorem clone_zi (A : Option Addr) (n c : Nat) (xs : List Int) (w : World) (hr : RI w .i64 A n c xs) (hn : n ≤ 1099511627776) :
    Calls Try.prog 38 #[.slice A n c] w fun e w' => ∃ A' c', e = .returned (.slice A' n c') ∧ w'.ownsRow w.heap.size 3 1 (.slice A' n c') n (zv xs) ∧ Below w.heap.size w w' := by
  obtain ⟨i0, hi, hz0, hz1, hz2⟩ := info_parts Try.infoZ
  have q : ∀ (w : World) (a : Option Addr) (n c n' c' : Nat), (binOp .eql 31 (.slice a n c) (.slice none n' c')).run Try.prog w = .ok (.bool a.isNone) w := fun w a n c n' c' => Lib.run_eql_slice_nil w _ _ a n c n' c' Try.underlying31
  rcases A with _ | ad
  · have hc := hr.nil rfl
    have hm : n = 0 := by have := hr.cap; omega
    subst hc hm
    obtain rfl : xs = [] := List.eq_nil_of_length_eq_zero hr.len
    go_enter Try.func38, Try.ntmps38
    go_wp2
    go_ret
    exact ⟨none, 0, rfl, ⟨rfl, .inl ⟨rfl, rfl⟩⟩, Below.refl _ _⟩
  · have R := Lib.hid hr
    have HN := Lib.hid hn
    clear hr hn
    go_enter Try.func38, Try.ntmps38
    go_wp2_with (at_builtin; refine append_zr rfl (.tmp 5) (.tmp 6) rfl w.heap.size _ 0 [] rfl (World.ownsRow_lit (base := w.heap.size) (e := 3) (size := 1) w #[] 0 (Nat.le_refl _) (by simp [maxLen]) rfl) ad n c _ rfl (R.out.below ((Below.refl _ _).alloc (Nat.le_refl _) _)) (by have := HN.out; omega) (by simp) ?_; intro v5 w5 o5 g5; obtain ⟨A5, c5, rfl⟩ := own_form o5; have O5 := Lib.hid o5; have B5 := Lib.hid (((Below.refl w.heap.size w).alloc (Nat.le_refl _) _).grown g5 (by simp) (fun q hq => Nat.le_of_eq (Option.some.inj hq))); clear o5 g5)
    go_ret
    exact ⟨A5, c5, by simp, by simpa using O5.out, B5.out⟩
/-- slices.BinarySearch in a row of whole numbers that is sorted. -/
theorem search_zi (A : Option Addr) (n c : Nat) (xs : List Int) (x : Int) (w : World) (hr : RI w .i64 A n c xs) (hn : n ≤ 1099511627776) (hs : xs.Pairwise (· ≤ ·)) :
    Calls Try.prog 42 #[.slice A n c, .int .i64 x] w fun e w' => ∃ p, e = .returned (.tuple #[.int .i64 p, .bool (decide (x ∈ xs))]) ∧ Below w.heap.size w w' := by
  rcases Nat.eq_zero_or_pos n with rfl | h0
  · obtain rfl : xs = [] := List.eq_nil_of_length_eq_zero hr.len
    have h := Any.slices_BinarySearch_int_empty Try.laysB25 A c x w
    exact Calls.mono h fun e w' ⟨h1, h2⟩ => ⟨0, h1.trans (by simp), by rw [h2]; exact Below.refl _ _⟩
  · obtain ⟨b, off, rfl, hb, hc⟩ := hr.at_ h0
    have hl := hr.len
    have h := Any.slices_BinarySearch_int Try.laysB25 b off n c xs x w (by omega) (by omega) (fun j hj => hc j (by omega)) (by rw [List.take_of_length_le (by omega)]; exact hs)
    rw [List.take_of_length_le (show xs.length ≤ n by omega)] at h
    exact Calls.mono h fun e w' ⟨h1, q, h2⟩ => ⟨((xs.countP (· < x) : Nat) : Int), h1.trans (by rw [List.contains_eq_mem]), by rw [h2]; exact below_drewN (Below.refl _ _) q⟩
def sorted (xs : List Int) : List Int := xs.mergeSort fun x y => decide (x ≤ y)
theorem sorted_mem (xs : List Int) (z : Int) : z ∈ sorted xs ↔ z ∈ xs := by simp [sorted, List.mem_mergeSort]
theorem sorted_len (xs : List Int) : (sorted xs).length = xs.length := by simp [sorted]
theorem sorted_srt (xs : List Int) : (sorted xs).Pairwise (· ≤ ·) := by
  have h := List.pairwise_mergeSort (le := fun x y : Int => decide (x ≤ y)) (fun a b c h1 h2 => by simp at h1 h2 ⊢; omega) (fun a b => by simp; omega) xs
  exact h.imp fun h => by simpa using h
/-- slices.Sort of a row of the caller's own. -/
theorem sort_zi (B : Nat) (A : Option Addr) (n c : Nat) (xs : List Int) (w : World) (ho : w.ownsRow B 3 1 (.slice A n c) n (zv xs)) (hn : n ≤ 1099511627776) (hB : B ≤ w.heap.size) :
    Calls Try.prog 39 #[.slice A n c] w fun e w' => e = .returned (.tuple #[]) ∧ w'.ownsRow B 3 1 (.slice A n c) n (zv (sorted xs)) ∧ w.grownBy w' (A.map (·.block)) := by
  have hl : xs.length = n := by have := ho.1; simp [zv_length] at this; exact this
  rcases Nat.eq_zero_or_pos n with rfl | h0
  · obtain rfl : xs = [] := List.eq_nil_of_length_eq_zero hl
    have h := Any.slices_Sort_int_none Try.lays189 A c w
    exact Calls.mono h fun e w' ⟨h1, h2⟩ => ⟨h1, by rw [h2]; simpa [sorted] using ho, by rw [h2]; exact World.grownBy.refl _ _⟩
  · rcases ho.2 with ⟨hv, h00⟩ | ⟨g, cap, cur, hv, hbase, hb, h1, h2, h3, h4⟩
    · omega
    · injection hv with e1 e2 e3
      subst e1 e3
      have hH : Sort.Holds (Value.int .i64) w g 0 xs.toArray := holds_of_blockI hb (by rw [hl]; simpa [zv] using h4)
      have h := Any.slices_Sort_int Try.lays189 g 0 c xs w hH (Array.getElem?_eq_some_iff.1 hb).1 (by omega)
      rw [hl] at h
      refine Calls.mono h ?_
      rintro e w' ⟨q1, k, os, rfl⟩
      refine ⟨q1, ?_, grownBy_sortedI _⟩
      have := ownsRow_sortedI (w := w) (base := B) (n := k) (os := os) (ss := xs) (ts := sorted xs) (sorted_len xs) hbase hb (by omega) h2 (by simpa using h3)
      rw [hl] at this
      exact this
end Go.Proofs.Ytammgingmkdfhaa.S19
