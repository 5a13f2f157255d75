/-
  The landed package mac: what its calls of sums do, of either kind. No statement is proved here.
-/
import Derived.Test.YtjgcaodicbikiaaDoorMacA
import Derived.Test.YtjgcaodicbikiaaDoorOctX
import Derived.Laws.EntriesVeiled
namespace Go.Proofs.YtjgcaodicbikiaaDoor.S6
set_option linter.unusedSimpArgs false
set_option linter.unusedVariables false
open Go.RowKit

/-- The tables of both layers of sums lie in their variables. -/
def GK (w : World) : Prop := S2.GOk w ∧ S5.GOk w
theorem GK.below {w w' : World} {B : Nat} (h : GK w) (hB : w.heap.size ≤ B) (hb : Below B w w') : GK w' := ⟨h.1.below hB hb, h.2.below hB hb⟩
/-- What a function of sums does: the sum of all parts, one behind the other. -/
abbrev SumF (F : FuncId) (k : Int) : Prop := ∀ (A : Option Addr) (n c : Nat) (xss : List (List UInt8)) (w : World), GK w → RdBs w A n c xss → xss.flatten.length ≤ 268435456 → Calls Tryd.prog F #[.slice A n c] w (New w.heap.size w (sumK k xss.flatten))
set_option maxHeartbeats 1000000 in
theorem short_any : SumF 32 0 := by
  intro A n c xss w hg h ht
  have l1 : n ≤ maxLen := Nat.le_trans h.cap h.max
  unfold maxLen at l1
  have e0 : sumK 0 xss.flatten = S2.sum xss.flatten := by simp [sumK]
  rw [e0]
  have HG := Lib.hid hg.1
  have HNE := Lib.hid (Nat.ne_of_gt hg.1.lt.1)
  have HNE1 := Lib.hid (Nat.ne_of_gt hg.1.lt.2)
  have HT := Lib.hid ht
  have HH0 := Lib.hid h
  clear hg ht e0
  go_enter Tryd.func32, Tryd.ntmps32
  go_wp2_with (go_at_call 28; ((with_reducible refine (S2.new_any _ HG.out).mono ?_); rintro e w1 ⟨rfl, hh1, hb1⟩; have HH1 := Lib.hid (show S2.HashIs w1 w.heap.size (cats xss 0) by rw [show cats xss 0 = [] by simp [cats]]; exact hh1); have HB1 := Lib.hid hb1; clear hh1 hb1))
  go_loopw [9] (fun i wr => ∃ k : Nat, k ≤ n ∧ i = .int .i64 (k : Int) ∧ Hid (S2.HashIs wr w.heap.size (cats xss k)) ∧ Below w.heap.size w wr) (fun i _ => n - (intOf i).toNat)
  case atStart => exact ⟨0, Nat.zero_le _, rfl, HH1, HB1.out⟩
  case round =>
    obtain ⟨k, hk, rfl, HH, hbel⟩ := hrel
    by_cases hlt : k < n
    · obtain ⟨b, off, rfl, hb, hcell⟩ := (HH0.out.below hbel).at_ (by omega)
      obtain ⟨A', n', c', hc, hr⟩ := hcell k hlt
      have e1 := cats_succ xss k (by have := h.len; omega)
      have e2 := tot_le xss (k + 1)
      have E := Lib.hid e1
      have HR1 := Lib.hid hr
      have HM := Lib.hid (show (cats xss k).length + n' ≤ 4294967296 by
        have e3 := HT.out
        unfold tot at e2
        rw [e1, List.length_append, hr.len] at e2
        omega)
      have HS := Lib.hid (show 0 < n' → S2.Sep A' w.heap.size from by
        have h0 := (h.at_ (by omega))
        obtain ⟨b0, off0, e0, hb0, hc0⟩ := h0
        obtain ⟨A0, n0, c0, hc0, hr0⟩ := hc0 k hlt
        injection e0 with e0
        injection e0 with e0 e00
        subst e0 e00
        have := (hbel.cell (p := ⟨b, off + k, none⟩) hb0).symm.trans hc
        rw [hc0] at this
        injection this with this
        injection this with t1 t2 t3
        subst t1 t2 t3
        exact S2.sep_new hr0 (Nat.le_refl _))
      have HBL := Lib.hid hbel
      clear hcell e1 e2 hr
      go_wp2_with (first
        | (go_at_call 29; ((with_reducible refine (S2.write_any w.heap.size A' n' c' (cats xss k) (xss[k]?.getD []) wr HH.out HR1.out HS.out (HG.out.below (Nat.le_refl _) HBL.out).k HNE.out HM.out).mono ?_); rintro e w5 ⟨rfl, h5, o5⟩; rw [← E.out] at h5; have H5 := Lib.hid h5; have O5 := Lib.hid o5; clear h5 o5)))
      go_roundw
      case rel => exact ⟨k + 1, by omega, by go_num, H5, below_only HBL.out O5.out (Nat.le_refl _) HBL.out.size⟩
      case measure => simp [intOf]; omega
    · obtain rfl : k = n := by omega
      have e := cats_all xss k h.len
      rw [e] at HH
      clear e
      have HBL := Lib.hid hbel
      have HM := Lib.hid (show xss.flatten.length ≤ 2147483648 by have := HT.out; omega)
      go_wp2_with (first
        | (go_at_call 30; ((with_reducible refine (S2.sum_any w.heap.size xss.flatten wr HH.out (HG.out.below (Nat.le_refl _) HBL.out) HM.out).mono ?_); rintro e w3 ⟨A3, n3, c3, rfl, ho3, hb3⟩)))
      go_ret
      exact New.from HBL.out ⟨A3, n3, c3, rfl, ho3, hb3⟩
theorem parts_sum : SumF 31 1 := fun A n c xss w hg h ht => by
  have e : sumK 1 xss.flatten = S5.sum xss.flatten := by simp [sumK]
  rw [e]
  exact S5.parts_any A n c xss w h hg.2 ht
/-- The cells of a kind. -/
abbrev kA (sz bl : Int) (F : FuncId) : Array Value := #[.int .i64 sz, .int .i64 bl, .func (.func F) #[] #[]]
theorem results_cell_tmp {P : Program} {fn : Func} {p q : Tmp} {ty : TypeId} (h : fn.results = #[.cell p ty, .tmp q]) (tmps : Array Value) (w : World) (g : Nat) (t : TypeId) (cs : Array Value) (fr : Nat × Nat) (d : TypeDesc)
    (hp : tmps.getD p undef = .pointer (some ⟨g, 0, none⟩)) (hg : w.heap[g]? = some (.cells cs t fr))
    (hu : P.underlying ty = some d) (hd : (match d with | .struct _ | .array _ _ => true | _ => false) = true) (hi : (P.info? ty).map (·.size) = some cs.size) :
    (results fn tmps).run P w = .ok (.tuple #[.agg cs, tmps.getD q undef]) w := by
  have hp' : tmps[p]?.getD undef = .pointer (some ⟨g, 0, none⟩) := by simpa using hp
  simp [results, h, hp', asAddr, run_loadVar_row w g t ty cs fr d hg hu hd hi]
theorem Tryd.infoKind : (Tryd.prog.info? 40).map (·.size) = some 3 := by kernel_rfl
theorem at_two (w : World) (o o' : Obj) : ((w.alloc o).alloc o').heap[w.heap.size]? = some o := by
  rw [Below.heap_alloc _ _ _ (by simp)]
  exact heap_alloc_new w o
theorem find_0 (w : World) : Calls Tryd.prog 20 #[.int .i64 0] w fun e w' => e = .returned (.tuple #[.agg (kA 32 64 32), .bool true]) ∧ Below w.heap.size w w' := by
  go_enter Tryd.func20, Tryd.ntmps20
  go_wp2
  refine bodyPost_ret (results_cell_tmp rfl _ _ w.heap.size _ _ _ _ rfl (at_two w _ _) Tryd.underlying40 rfl Tryd.infoKind) rfl ?_
  exact ⟨rfl, ((Below.refl _ _).alloc (Nat.le_refl _) _).alloc (by simp) _⟩
theorem find_1 (w : World) : Calls Tryd.prog 20 #[.int .i64 1] w fun e w' => e = .returned (.tuple #[.agg (kA 64 128 31), .bool true]) ∧ Below w.heap.size w w' := by
  go_enter Tryd.func20, Tryd.ntmps20
  go_wp2
  refine bodyPost_ret (results_cell_tmp rfl _ _ w.heap.size _ _ _ _ rfl (at_two w _ _) Tryd.underlying40 rfl Tryd.infoKind) rfl ?_
  exact ⟨rfl, ((Below.refl _ _).alloc (Nat.le_refl _) _).alloc (by simp) _⟩
theorem find_none (k : Int) (w : World) (h : k < 0 ∨ 2 ≤ k) : Calls Tryd.prog 20 #[.int .i64 k] w fun e w' => e = .returned (.tuple #[.agg #[.int .i64 0, .int .i64 0, .nilFunc], .bool false]) ∧ Below w.heap.size w w' := by
  rcases h with h | h
  · go_enter Tryd.func20, Tryd.ntmps20
    go_wp2
    refine bodyPost_ret (results_cell_tmp rfl _ _ w.heap.size _ _ _ _ rfl (at_two w _ _) Tryd.underlying40 rfl Tryd.infoKind) rfl ?_
    exact ⟨rfl, ((Below.refl _ _).alloc (Nat.le_refl _) _).alloc (by simp) _⟩
  · have h0 : ¬ k < 0 := by omega
    go_enter Tryd.func20, Tryd.ntmps20
    go_wp2
    refine bodyPost_ret (results_cell_tmp rfl _ _ w.heap.size _ _ _ _ rfl (at_two w _ _) Tryd.underlying40 rfl Tryd.infoKind) rfl ?_
    exact ⟨rfl, ((Below.refl _ _).alloc (Nat.le_refl _) _).alloc (by simp) _⟩
/-- A number is a kind, or none. -/
theorem kinds (k : Int) : k = 0 ∨ k = 1 ∨ ((k < 0 ∨ 2 ≤ k) ∧ szK k = 0 ∧ blK k = 0) := by
  by_cases h0 : k = 0
  · exact .inl h0
  · by_cases h1 : k = 1
    · exact .inr (.inl h1)
    · exact .inr (.inr ⟨by omega, by simp [szK, h0, h1], by simp [blK, h0, h1]⟩)
theorem size_any (k : Int) (w : World) : Calls Tryd.prog 9 #[.int .i64 k] w fun e w' => e = .returned (.tuple #[.int .i64 (szK k : Nat), .int .i64 (blK k : Nat)]) ∧ Below w.heap.size w w' := by
  rcases kinds k with rfl | rfl | ⟨hk, h1, h2⟩
  · go_enter Tryd.func9, Tryd.ntmps9
    go_wp2_with (go_at_call 20; ((with_reducible refine (find_0 _).mono ?_); rintro e w1 ⟨rfl, b1⟩; have B1 := Lib.hid b1; clear b1; simp only [kA]))
    go_region
    all_goals
      go_wp2
      go_ret2
      exact ⟨rfl, (B1.out.alloc B1.out.size _).drew⟩
  · go_enter Tryd.func9, Tryd.ntmps9
    go_wp2_with (go_at_call 20; ((with_reducible refine (find_1 _).mono ?_); rintro e w1 ⟨rfl, b1⟩; have B1 := Lib.hid b1; clear b1; simp only [kA]))
    go_region
    all_goals
      go_wp2
      go_ret2
      exact ⟨rfl, (B1.out.alloc B1.out.size _).drew⟩
  · rw [h1, h2]
    have HF := Lib.hid (show ∀ W, _ from fun W => find_none k W hk)
    clear hk h1 h2
    go_enter Tryd.func9, Tryd.ntmps9
    go_wp2_with (go_at_call 20; ((with_reducible refine (HF.out _).mono ?_); rintro e w1 ⟨rfl, b1⟩; have B1 := Lib.hid b1; clear b1))
    go_region
    all_goals
      go_wp2
      go_ret2
      exact ⟨rfl, (B1.out.alloc B1.out.size _).drew⟩
theorem RdBs.oneAt {w : World} {T : TypeId} {A : Option Addr} {n c : Nat} {xs : List UInt8} (h : Rd w A n c xs) (b : Nat) (hb : w.heap.size = b) : RdBs (w.alloc (.cells #[.slice A n c] T)) (some ⟨b, 0, none⟩) 1 1 [xs] := by subst hb; exact RdBs.built1 w T h
theorem size_alloc1 {w w1 : World} (b : Below w.heap.size w w1) (o : Obj) : w.heap.size ≤ (w1.alloc o).heap.size := Nat.le_trans b.size (by simp)
theorem GivesF.from {w W w' : World} {xs : List UInt8} {e : Ending} (h : Below w.heap.size w W) (hn : New W.heap.size W xs e w') : GivesF w.heap.size w xs e w' := GivesF.of_new (New.from h hn)
theorem sum_any (k : Int) (A : Option Addr) (n c : Nat) (xs : List UInt8) (w : World) (hg : GK w) (hr : Rd w A n c xs) (hn : n ≤ 100000000) : Calls Tryd.prog 12 #[.int .i64 k, .slice A n c] w (GivesF w.heap.size w (sumK k xs)) := by
  have HG := Lib.hid hg
  have HR := Lib.hid hr
  have HL := Lib.hid (show [xs].flatten.length ≤ 268435456 by have := hr.len; simp; omega)
  have e1 : [xs].flatten = xs := by simp
  rcases kinds k with rfl | rfl | ⟨hk, h1, h2⟩
  · clear hg hr
    go_enter Tryd.func12, Tryd.ntmps12
    go_wp2_with (first
      | (go_at_call 20; ((with_reducible refine (find_0 _).mono ?_); rintro e w1 ⟨rfl, b1⟩; have B1 := Lib.hid (b1.alloc b1.size (.cells (kA 32 64 32) 40)); have R1 := Lib.hid ((HR.out.below b1).alloc (.cells (kA 32 64 32) 40)); clear b1))
      | (go_at_call 32; ((with_reducible refine (short_any _ 1 1 [xs] _ (HG.out.below (Nat.le_refl _) (B1.out.alloc B1.out.size _)) (RdBs.oneAt (T := 22) R1.out (w1.heap.size + 1) (by simp)) HL.out).mono ?_); rw [e1]; rintro e w3 ⟨A3, n3, c3, rfl, o3, b3⟩; have O3 := Lib.hid (B1.out.alloc B1.out.size (.cells #[.slice A n c] 22)))))
    go_ret
    exact GivesF.from O3.out ⟨A3, n3, c3, rfl, o3, b3⟩
  · clear hg hr
    go_enter Tryd.func12, Tryd.ntmps12
    go_wp2_with (first
      | (go_at_call 20; ((with_reducible refine (find_1 _).mono ?_); rintro e w1 ⟨rfl, b1⟩; have B1 := Lib.hid (b1.alloc b1.size (.cells (kA 64 128 31) 40)); have R1 := Lib.hid ((HR.out.below b1).alloc (.cells (kA 64 128 31) 40)); clear b1))
      | (go_at_call 31; ((with_reducible refine (parts_sum _ 1 1 [xs] _ (HG.out.below (Nat.le_refl _) (B1.out.alloc B1.out.size _)) (RdBs.oneAt (T := 22) R1.out (w1.heap.size + 1) (by simp)) HL.out).mono ?_); rw [e1]; rintro e w3 ⟨A3, n3, c3, rfl, o3, b3⟩; have O3 := Lib.hid (B1.out.alloc B1.out.size (.cells #[.slice A n c] 22)))))
    go_ret
    exact GivesF.from O3.out ⟨A3, n3, c3, rfl, o3, b3⟩
  · have e : sumK k xs = [] := by
      have := sumK_length k xs
      rw [h1] at this
      exact List.eq_nil_of_length_eq_zero this
    rw [e]
    have HF := Lib.hid (show ∀ W, _ from fun W => find_none k W hk)
    clear hk h1 h2
    go_enter Tryd.func12, Tryd.ntmps12
    go_wp2_with (go_at_call 20; ((with_reducible refine (HF.out _).mono ?_); rintro e w1 ⟨rfl, b1⟩; have B1 := Lib.hid b1; clear b1))
    go_ret
    exact ⟨none, 0, rfl, Rd.nil_ _, B1.out.alloc B1.out.size _, fun a h => by cases h⟩
theorem xorL_replicate (xs : List UInt8) (d : UInt8) : xorL xs (List.replicate xs.length d) = xs.map (· ^^^ d) := by
  induction xs with
  | nil => rfl
  | cons x xs ih =>
    have h : xorL (x :: xs) (List.replicate (xs.length + 1) d) = (x ^^^ d) :: xorL xs (List.replicate xs.length d) := by simp [xorL, List.replicate_succ]
    rw [List.length_cons, h, ih, List.map_cons]
theorem turned_any (A : Option Addr) (n c : Nat) (xs : List UInt8) (d : UInt8) (w : World) (hr : Rd w A n c xs) (hn : n ≤ 1000) : Calls Tryd.prog 24 #[.slice A n c, .int .u8 (d.toNat : Int)] w (New w.heap.size w (xs.map (· ^^^ d))) := by
  have HR := Lib.hid hr
  have hl := hr.len
  have e : xorL xs (List.replicate n d) = xs.map (· ^^^ d) := by
    subst hl
    exact xorL_replicate xs d
  have E := Lib.hid e
  clear hr hl e
  go_enter Tryd.func24, Tryd.ntmps24
  go_wp2_with (first
    | (go_at_call 36; ((with_reducible refine (fill_any d n _ (by omega)).mono ?_); intro e w1 h1; obtain ⟨A1, c1, rfl, r1, b1⟩ := new_len h1; have R1 := Lib.hid (show Rd w1 A1 n c1 (List.replicate n d) by simpa using r1); have B1 := Lib.hid b1; clear h1 r1 b1; simp only [List.length_replicate]))
    | (go_at_call 35; ((with_reducible refine (xor_any A A1 n c n c1 xs (List.replicate n d) _ (HR.out.below B1.out) R1.out (.inl (by omega))).mono ?_); rw [E.out]; rintro e w3 ⟨A3, n3, c3, rfl, o3, b3⟩)))
  go_ret
  exact New.from B1.out ⟨A3, n3, c3, rfl, o3, b3⟩
end Go.Proofs.YtjgcaodicbikiaaDoor.S6
