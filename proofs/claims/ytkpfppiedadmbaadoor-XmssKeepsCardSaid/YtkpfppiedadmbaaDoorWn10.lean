/-
  Texts put together: WpR9, Int, DigC, DigS, DigR, DigR2, DigR3, DigR4, WpRA, WpRB, WpRC, WpC. No statement is proved here.
-/
import Derived.Test.YtkpfppiedadmbaaDoorWn09
import Derived.Test.YtkpfppiedadmbaaDoorWn01
import Derived.Test.YtkpfppiedadmbaaDoorWn02
import Derived.Deep.DrawnRows
import Derived.Deep.AppendLies
import Derived.Lib.Hide
import Derived.OwnWalk
import Derived.RegionTactic
import Derived.Deep.Draws
import Derived.Deep.RegionHeld3

/-
  What the document's own May and Leaf of layer 15 do. No statement is proved here.
-/
namespace Go.Proofs.YtkpfppiedadmbaaDoor.S15
set_option linter.unusedSimpArgs false
set_option linter.unusedVariables false
set_option maxRecDepth 1024
open Go.RowKit

def mayN (ns nl ne : Nat) : Bool := decide (ns = 32) && (decide (nl = 32) && decide (ne = 32))
set_option maxHeartbeats 4000000 in
theorem rmay_any15 (As : Option Addr) (ns cs : Nat) (Al : Option Addr) (nl cl : Nat) (Ae : Option Addr) (ne ce : Nat) (w : World) :
    Calls Tryd.prog 15 #[.agg (mkA As ns cs Al nl cl Ae ne ce)] w fun e w' => e = .returned (.bool (mayN ns nl ne)) ∧ Below w.heap.size w w' := by
  have B0 : Below w.heap.size w (w.alloc (.cells (mkA As ns cs Al nl cl Ae ne ce) 31)) := (Below.refl _ _).alloc (Nat.le_refl _) _
  by_cases h1 : ns = 32
  · have e1 : ((ns : Int) == 32) = true := by simp; omega
    by_cases h2 : nl = 32
    · have e2 : ((nl : Int) == 32) = true := by simp; omega
      by_cases h3 : ne = 32
      · have e3 : ((ne : Int) == 32) = true := by simp; omega
        have e : mayN ns nl ne = true := by simp [mayN, h1, h2, h3]
        rw [e]
        clear e
        subst h1 h2 h3
        have BH := Lib.hid B0
        clear B0
        go_enter Tryd.func15, Tryd.ntmps15
        go_wp2
        go_ret
        exact ⟨rfl, BH.out⟩
      · have e3 : ((ne : Int) == 32) = false := by simp; omega
        have e : mayN ns nl ne = false := by simp [mayN, h3]
        rw [e]
        clear e
        subst h1 h2
        have BH := Lib.hid B0
        clear B0
        go_enter Tryd.func15, Tryd.ntmps15
        go_wp2
        go_ret
        exact ⟨rfl, BH.out⟩
    · have e2 : ((nl : Int) == 32) = false := by simp; omega
      have e : mayN ns nl ne = false := by simp [mayN, h2]
      rw [e]
      clear e
      subst h1
      have BH := Lib.hid B0
      clear B0
      go_enter Tryd.func15, Tryd.ntmps15
      go_wp2
      go_ret
      exact ⟨rfl, BH.out⟩
  · have e1 : ((ns : Int) == 32) = false := by simp; omega
    have e : mayN ns nl ne = false := by simp [mayN, h1]
    rw [e]
    clear e
    have BH := Lib.hid B0
    clear B0
    go_enter Tryd.func15, Tryd.ntmps15
    go_wp2
    go_ret
    exact ⟨rfl, BH.out⟩
/-- The address that a leaf begins with. -/
abbrev adQ (ly tr qq : Nat) : Ad := ⟨ly, tr, 0, qq, 0, 0⟩
theorem leafL_eq (sec sd : List UInt8) (D : Ad) : leafL sec sd D = leafS sd D 7 0 (endsL sec sd D) := rfl
theorem ends_len (sec sd : List UInt8) (D : Ad) : (endsL sec sd D).length = 67 := by simp [endsL]
theorem ends_get (sec sd : List UInt8) (D : Ad) (k : Nat) (h : k < 67) : (endsL sec sd D)[k]?.getD [] = upL sd D k 0 15 (secL sec D k) := by simp [endsL, h]
theorem ends_32 (sec sd : List UInt8) (D : Ad) : ∀ r ∈ endsL sec sd D, r.length = 32 := by
  intro r hr
  obtain ⟨i, _, rfl⟩ := List.mem_map.1 hr
  exact up_len _ _ _ _ _ _ (num_len _ _ _)
abbrev qA (ly tr qq : Nat) : Array Value := #[.int .u32 (ly : Int), .int .u64 (tr : Int), .int .u32 0, .int .u32 (qq : Int), .int .u32 0, .int .u32 0]
theorem keep9 {w' : World} {g d : Nat} {T T' : TypeId} {As Al Ae : Option Addr} {ns cs nl cl ne ce ly tr qq : Nat} (h : Bk w' g T (mkA As ns cs Al nl cl Ae ne ce)) (h' : Bk w' d T' (qA ly tr qq)) : w'.cell? ⟨g, 0, none⟩ = some (.slice As ns cs) ∧ w'.cell? ⟨g, 1, none⟩ = some (.slice Al nl cl) ∧ w'.cell? ⟨g, 2, none⟩ = some (.slice Ae ne ce) ∧ w'.cell? ⟨d, 0, none⟩ = some (.int .u32 (ly : Int)) ∧ w'.cell? ⟨d, 1, none⟩ = some (.int .u64 (tr : Int)) ∧ w'.cell? ⟨d, 2, none⟩ = some (.int .u32 0) ∧ w'.cell? ⟨d, 3, none⟩ = some (.int .u32 (qq : Int)) ∧ w'.cell? ⟨d, 4, none⟩ = some (.int .u32 0) ∧ w'.cell? ⟨d, 5, none⟩ = some (.int .u32 0) :=
  ⟨h.cell 0, h.cell 1, h.cell 2, h'.cell 0, h'.cell 1, h'.cell 2, h'.cell 3, h'.cell 4, h'.cell 5⟩
end Go.Proofs.YtkpfppiedadmbaaDoor.S15

/-
  Rows of whole numbers that read so, and append to such a row. No statement is proved here.
-/
namespace Go.Proofs.YtkpfppiedadmbaaDoor
set_option linter.unusedSimpArgs false
set_option linter.unusedVariables false
set_option maxRecDepth 1024
open Go.RowKit

theorem Tryd.infoI : (Tryd.prog.info? 3).map (fun i => (i.zero, i.size, i.bytes)) = some (some (.int .i64 0), 1, 8) := by kernel_rfl
/-- A row of numbers as values. -/
def iv (xs : List Nat) : List Value := xs.map fun (b : Nat) => Value.int .i64 (b : Int)
theorem iv_length (xs : List Nat) : (iv xs).length = xs.length := by simp [iv]
theorem iv_append (xs ys : List Nat) : iv (xs ++ ys) = iv xs ++ iv ys := by simp [iv]
theorem iv_at (xs : List Nat) (i : Nat) (h : i < xs.length) : (iv xs)[i]? = some (.int .i64 ((xs[i] : Nat) : Int)) := by simp [iv, h]
theorem iv_one (xs : List Nat) : ∀ u ∈ iv xs, u.oneCell' = true := by
  intro u hu
  simp only [iv, List.mem_map] at hu
  obtain ⟨b, _, rfl⟩ := hu
  rfl
/-- The slice value of address A, length n and capacity c reads as the numbers xs. -/
structure Ri (w : World) (A : Option Addr) (n c : Nat) (xs : List Nat) : Prop where
  len : xs.length = n
  cap : n ≤ c
  max : c ≤ maxLen
  nil : A = none → c = 0
  at_ : 0 < n → ∃ b off, A = some ⟨b, off, none⟩ ∧ b < w.heap.size ∧ ∀ j, j < n → w.cell? ⟨b, off + j, none⟩ = some (.int .i64 ((xs.getD j 0 : Nat) : Int))

theorem Ri.keep {w w' : World} {A : Option Addr} {n c : Nat} {xs : List Nat} (h : Ri w A n c xs) (hs : w.heap.size ≤ w'.heap.size)
    (hk : ∀ p : Addr, p.block < w.heap.size → w'.cell? p = w.cell? p) : Ri w' A n c xs :=
  ⟨h.len, h.cap, h.max, h.nil, fun hn => by
    obtain ⟨b, off, e, hb, hc⟩ := h.at_ hn
    exact ⟨b, off, e, Nat.lt_of_lt_of_le hb hs, fun j hj => (hk _ hb).trans (hc j hj)⟩⟩
theorem Ri.below {w w' : World} {A : Option Addr} {n c : Nat} {xs : List Nat} (h : Ri w A n c xs) (hb : Below w.heap.size w w') : Ri w' A n c xs :=
  h.keep hb.size fun _ hp => hb.cell hp
theorem Ri.alloc {w : World} {A : Option Addr} {n c : Nat} {xs : List Nat} (h : Ri w A n c xs) (o : Obj) : Ri (w.alloc o) A n c xs :=
  h.below ((Below.refl _ _).alloc (Nat.le_refl _) o)
theorem Ri.drew {w : World} {A : Option Addr} {n c : Nat} {xs : List Nat} (h : Ri w A n c xs) : Ri w.drew A n c xs := h.below (Below.refl _ _).drew
theorem Ri.nil_ (w : World) : Ri w none 0 0 [] := ⟨rfl, Nat.le_refl _, by simp [maxLen], fun _ => rfl, fun h => absurd h (by omega)⟩
/-- What is owned reads. -/
theorem Ri.own {w : World} {B e n : Nat} {A : Option Addr} {c : Nat} {xs : List Nat} (h : w.ownsRow B e 1 (.slice A n c) n (iv xs)) : Ri w A n c xs := by
  have hl : xs.length = n := by have := h.1; simp [iv_length] at this; exact this
  rcases h.2 with ⟨hv, hn⟩ | ⟨g, cap, cur, hv, _, hh, hnc, hcm, _, htake⟩
  · injection hv with h1 h2 h3
    subst h1 h2 h3
    have : xs = [] := List.eq_nil_of_length_eq_zero hl
    subst this
    exact Ri.nil_ w
  · injection hv with h1 h2 h3
    subst h1 h3
    refine ⟨hl, hnc, hcm, (fun h => by cases h), fun hn => ⟨g, 0, rfl, (Array.getElem?_eq_some_iff.1 hh).1, fun j hj => ?_⟩⟩
    have := h.cellAt j (by omega)
    rw [Nat.zero_add, this, iv_at xs j (by omega)]
    simp [List.getD, hl ▸ hj]

/-- s[lo:hi], as the model spells the address. -/
theorem Ri.cut {w : World} {A : Option Addr} {n c : Nat} {xs : List Nat} (h : Ri w A n c xs) {k : Nat} (hk : k ≤ n) :
    Ri w (if c = k then A else A.map (·.add k)) (n - k) (c - k) (xs.drop k) := by
  have hc := h.cap
  refine ⟨by simp [h.len], by omega, by have := h.max; omega, fun e => ?_, fun hn => ?_⟩
  · split at e
    · have := h.nil e; omega
    · have : A = none := by simpa using e
      have := h.nil this; omega
  · obtain ⟨b, off, rfl, hb, hcell⟩ := h.at_ (by omega)
    rw [if_neg (by omega)]
    refine ⟨b, off + k, ?_, hb, fun j hj => ?_⟩
    · simp only [Option.map_some, Addr.add]
      split
      · subst_vars; rfl
      · rfl
    · have := hcell (k + j) (by omega)
      rw [Nat.add_assoc, this]
      simp [List.getD, List.getElem?_drop]
theorem Ri.take {w : World} {A : Option Addr} {n c : Nat} {xs : List Nat} (h : Ri w A n c xs) {k : Nat} (hk : k ≤ n) : Ri w A k c (xs.take k) := by
  have hl := h.len
  have hc := h.cap
  refine ⟨by simp; omega, by omega, h.max, h.nil, fun hn => ?_⟩
  obtain ⟨b, off, rfl, hb, hcell⟩ := h.at_ (by omega)
  refine ⟨b, off, rfl, hb, fun j hj => ?_⟩
  rw [hcell j (by omega)]
  simp [List.getD, List.getElem?_take, hj]

/-- 'out = append(out, p...)': out nil or the call's own, p whatever numbers. -/
theorem append_ri {w : World} {ops : Array Oper} {rest : List Oper} {o : Oper} {a : Act} {Q : Exit → Act → World → Prop} (hgd : o.guard = none) (s x : Operand)
    (ho : o.op = .call { callee := .builtin .append, args := #[s, x], argTypes := #[84, 84] })
    (base : Nat) (v : Value) (n : Nat) (xs : List Nat) (hs : a.eval s = v) (hown : w.ownsRow base 3 1 v n (iv xs))
    (A : Option Addr) (m c : Nat) (ys : List Nat) (hx : a.eval x = .slice A m c) (hr : Ri w A m c ys) (hb : n + m ≤ 1000000000000) (hbase : base ≤ w.heap.size)
    (h : ∀ v' w', w'.ownsRow base 3 1 v' (n + m) (iv (xs ++ ys)) → w.grownBy w' v.ownBlock → wpList Tryd.prog ops Q rest (a.put o.dst v') w') : wpList Tryd.prog ops Q (o :: rest) a w := by
  obtain ⟨i0, hi, hz0, hz1, hz2⟩ := info_parts Tryd.infoI
  rcases A with _ | ad
  · have hc := hr.nil rfl
    have hm : m = 0 := by have := hr.cap; omega
    subst hc hm
    obtain rfl : ys = [] := List.eq_nil_of_length_eq_zero hr.len
    exact wpList_append_own_none hgd s x _ ho base 3 i0 1 Tryd.underlying84 hi v n (iv xs) hs hown hx (h v w (by simpa using hown) (World.grownBy.refl _ _))
  · refine wpList_append_own w hgd s x _ ho base 3 i0 (.int .i64 0) 1 8 Tryd.underlying84 hi hz0 hz1 hz2 rfl (by omega) v n (iv xs) hs hown ad m c (iv ys) hx (by simp [iv_length, hr.len]) ?_ (iv_one _)
      (by simp only [maxLen]; omega) (by omega) hbase fun v' w' h1 h2 _ => h v' w' (by rw [iv_append]; exact h1) h2
    intro j u hj
    have hl := hr.len
    have hjl : j < ys.length := by
      rcases Nat.lt_or_ge j ys.length with h | h
      · exact h
      · rw [List.getElem?_eq_none (by simpa [iv_length] using h)] at hj; cases hj
    obtain ⟨b, off, e, _, hc⟩ := hr.at_ (by omega)
    injection e with e
    subst e
    have hp : (⟨b, off, none⟩ : Addr).add j = ⟨b, off + j, none⟩ := by unfold Addr.add; split <;> simp_all
    rw [iv_at ys j hjl] at hj
    rw [hp, hc j (by omega), ← hj]
    simp [List.getD, hjl]

theorem own_leni {w : World} {B e n : Nat} {v : Value} {xs : List Nat} (h : w.ownsRow B e 1 v n (iv xs)) : xs.length = n := by
  have := h.1; simp [iv_length] at this; exact this
theorem own_lit_i (w : World) (B : Nat) (xs : List Nat) (hB : B ≤ w.heap.size) (hm : xs.length ≤ maxLen) :
    (w.alloc (.cells (iv xs).toArray 3)).ownsRow B 3 1 (.slice (some ⟨w.heap.size, 0, none⟩) xs.length xs.length) xs.length (iv xs) := by
  have := World.ownsRow_lit (base := B) (e := 3) (size := 1) w (iv xs).toArray xs.length hB hm (by simp [iv_length])
  simpa using this
theorem ri_lit (w : World) (vs : Array Value) (xs : List Nat) (h : vs.toList = iv xs) (hm : xs.length ≤ maxLen) (b : Nat) (hb : w.heap.size = b) : Ri (w.alloc (.cells vs 3)) (some ⟨b, 0, none⟩) xs.length xs.length xs := by
  subst hb
  obtain ⟨vs⟩ := vs
  simp only at h
  subst h
  exact Ri.own (own_lit_i w 0 xs (Nat.zero_le _) hm)
/-- What a call gives: numbers in new memory. -/
def NewI (B : Nat) (w : World) (xs : List Nat) (e : Ending) (w' : World) : Prop :=
  ∃ (A : Option Addr) (n c : Nat), e = .returned (.slice A n c) ∧ w'.ownsRow B 3 1 (.slice A n c) n (iv xs) ∧ Below B w w'
theorem NewI.mk {B : Nat} {w w' : World} {v : Value} {n : Nat} {xs : List Nat} (h : w'.ownsRow B 3 1 v n (iv xs)) (hb : Below B w w') : NewI B w xs (.returned v) w' := by
  obtain ⟨A, c, rfl⟩ := own_form h
  exact ⟨A, n, c, rfl, h, hb⟩
theorem newi_len {B : Nat} {w w' : World} {xs : List Nat} {e : Ending} (h : NewI B w xs e w') : ∃ (A : Option Addr) (c : Nat), e = .returned (.slice A xs.length c) ∧ Ri w' A xs.length c xs ∧ w'.ownsRow B 3 1 (.slice A xs.length c) xs.length (iv xs) ∧ Below B w w' := by
  obtain ⟨A, n, c, rfl, ho, hb⟩ := h
  have hn := own_leni ho
  subst hn
  exact ⟨A, c, rfl, Ri.own ho, ho, hb⟩
theorem run_cutIH {A : Option Addr} {n c m : Nat} {h : Int} (hh : h = (m : Nat)) (hk : m ≤ c) (W : World) :
    (Instr.slice 84 (.slice A n c) none (some (.int .i64 h)) none).run Tryd.prog W = .ok (.slice A m c) W := by
  have ee : Tryd.prog.elem 84 = 3 := by kernel_rfl
  have hs : (sizeOf 3).run Tryd.prog W = .ok 1 W := by kernel_rfl
  subst hh
  rw [run_slice_h W 84 A n c (by rw [ee]; exact Tryd.underlying84) .i64 (m : Int) (by omega) (by omega), ee, hs]
  simp only [Result.andThen, sliced, Nat.mul_one, Int.toNat_natCast, Nat.sub_zero]
  have : A.map (·.add 0) = A := by cases A <;> simp [Addr.add]
  rw [this]
  split <;> rfl
theorem run_cutIHAt {A : Option Addr} {n c m : Nat} {h : Int} (hh : h = (m : Nat)) (hk : m ≤ c) (W : World) :
    (Instr.sliceAt 84 (.slice A n c) none (some (.int .i64 h)) none).run Tryd.prog W = .ok (.slice A m c) W := by
  have ee : Tryd.prog.elem 84 = 3 := by kernel_rfl
  rw [run_sliceAt_slice W 84 _ _ _ _ (by rw [ee]; exact Tryd.underlying84)]
  exact run_cutIH hh hk W
theorem news_ri {w : World} {ad : Addr} {m c : Nat} {ys : List Nat} (hr : Ri w (some ad) m c ys) : ∀ j u, (iv ys)[j]? = some u → w.cell? (ad.add j) = some u := by
  intro j u hj
  have hl := hr.len
  have hjl : j < ys.length := by
    rcases Nat.lt_or_ge j ys.length with h | h
    · exact h
    · rw [List.getElem?_eq_none (by simpa [iv_length] using h)] at hj; cases hj
  obtain ⟨b, off, e, _, hc⟩ := hr.at_ (by omega)
  injection e with e
  subst e
  have hp : (⟨b, off, none⟩ : Addr).add j = ⟨b, off + j, none⟩ := by unfold Addr.add; split <;> simp_all
  rw [iv_at ys j hjl] at hj
  rw [hp, hc j (by omega), ← hj]
  simp [List.getD, hjl]

/-- append at a step of a region that draws its order; where the new row lies. -/
theorem step_append_ri {w : World} {ops : Array Oper} {o : Oper} {a : Act} {K : Act → World → Prop} {Q : Exit → Act → World → Prop} {E : Prop} (hw : Region.wanted o (yielded ops a.tmps) = true) (s x : Operand)
    (ho : o.op = .call { callee := .builtin .append, args := #[s, x], argTypes := #[84, 84] })
    (base : Nat) (v : Value) (n : Nat) (xs : List Nat) (hs : a.eval s = v) (hown : w.ownsRow base 3 1 v n (iv xs))
    (A : Option Addr) (m c : Nat) (ys : List Nat) (hx : a.eval x = .slice A m c) (hr : Ri w A m c ys) (hb : n + m ≤ 1000000000000) (hbase : base ≤ w.heap.size)
    (h : ∀ v' w', w'.ownsRow base 3 1 v' (n + m) (iv (xs ++ ys)) → w.grownBy w' v.ownBlock → (v'.ownBlock = v.ownBlock ∨ v'.ownBlock = some w.heap.size) → K (a.put o.dst v') w') :
    if Region.wanted o (yielded ops a.tmps) = true then Oper.wp Tryd.prog o a w K Q else E := by
  obtain ⟨i0, hi, hz0, hz1, hz2⟩ := info_parts Tryd.infoI
  rw [if_pos hw]
  rcases A with _ | ad
  · have hc := hr.nil rfl
    have hm : m = 0 := by have := hr.cap; omega
    subst hc hm
    obtain rfl : ys = [] := List.eq_nil_of_length_eq_zero hr.len
    have hrun := run_append_owned_none (P := Tryd.prog) (w := w) base 84 o.type 3 i0 1 Tryd.underlying84 hi v n (iv xs) hown
    unfold Oper.wp
    simp [execOp, ho, resolve, invoke, builtin, hs, hx, hrun, Result.andThen]
    exact h v w (by simpa using hown) (World.grownBy.refl _ _) (.inl rfl)
  · obtain ⟨v', w', hrun, h2, h3, _, h5⟩ := run_append_own_at (P := Tryd.prog) w base 84 o.type 3 i0 (.int .i64 0) 1 8 Tryd.underlying84 hi hz0 hz1 hz2 rfl (by omega) v n (iv xs) hown ad m c (iv ys)
      (by simp [iv_length, hr.len]) (news_ri hr) (iv_one _) (by simp only [maxLen]; omega) (by omega) hbase
    unfold Oper.wp
    simp [execOp, ho, resolve, invoke, builtin, hs, hx, hrun, Result.andThen]
    exact h v' w' (by rw [iv_append]; exact h2) h3 h5

end Go.Proofs.YtkpfppiedadmbaaDoor

/-
  What the calls of package digits are to do, as one structure; words for them. No statement is proved here.
-/
namespace Go.Proofs.YtkpfppiedadmbaaDoor.S7
set_option linter.unusedSimpArgs false
set_option linter.unusedVariables false
set_option maxRecDepth 1024
open Go.RowKit

def mayB (w : Int) : Bool := w == 1 || w == 2 || w == 4 || w == 8
theorem wid_of {w : Int} (h : mayB w = true) : ∃ v : Nat, w = (v : Int) ∧ wid v := by
  simp only [mayB, Bool.or_eq_true, beq_iff_eq] at h
  rcases h with ((h | h) | h) | h
  · exact ⟨1, h, .inl rfl⟩
  · exact ⟨2, h, .inr (.inl rfl)⟩
  · exact ⟨4, h, .inr (.inr (.inl rfl))⟩
  · exact ⟨8, h, .inr (.inr (.inr rfl))⟩
theorem may_wid {v : Nat} (h : wid v) : mayB (v : Int) = true := by rcases h with h | h | h | h <;> subst h <;> rfl
def okS (n w : Int) : Bool := decide (1 ≤ n) && decide (n ≤ 64) && mayB w
theorem okS_of {n w : Int} (h : okS n w = true) : ∃ m v : Nat, n = (m : Int) ∧ w = (v : Int) ∧ 1 ≤ m ∧ m ≤ 64 ∧ wid v := by
  simp only [okS, Bool.and_eq_true, decide_eq_true_eq] at h
  obtain ⟨v, rfl, hv⟩ := wid_of h.2
  exact ⟨n.toNat, v, by omega, rfl, by omega, by omega, hv⟩
theorem pow_lt9 {j : Nat} (h : j ≤ 8) : 2 ^ j ≤ 256 := Nat.le_trans (Nat.pow_le_pow_right (by omega) h) (by decide)
theorem nd_zero (b f : Nat) : nd b f 0 = 0 := by cases f <;> simp [nd]
theorem nd_step (b f x : Nat) (h : x ≠ 0) : nd b (f + 1) x = nd b f (x / b) + 1 := by simp [nd, h]
theorem own_alloc {w : World} {B e size n : Nat} {v : Value} {xs : List Value} (h : w.ownsRow B e size v n xs) (o : Obj) : (w.alloc o).ownsRow B e size v n xs := h.alloc o
theorem own_nili (w : World) (B : Nat) : w.ownsRow B 3 1 (.slice none 0 0) 0 (iv []) := World.ownsRow_nil _ _ _ _
theorem own_lit8 (w : World) (B : Nat) (xs : List UInt8) (hB : B ≤ w.heap.size) (hm : xs.length ≤ maxLen) :
    (w.alloc (.cells (bv xs).toArray 5)).ownsRow B 5 1 (.slice (some ⟨w.heap.size, 0, none⟩) xs.length xs.length) xs.length (bv xs) := by
  have := World.ownsRow_lit (base := B) (e := 5) (size := 1) w (bv xs).toArray xs.length hB hm (by simp [bv_length])
  simpa using this
theorem rd_lit8 (w : World) (vs : Array Value) (xs : List UInt8) (h : vs.toList = bv xs) (hm : xs.length ≤ maxLen) (b : Nat) (hb : w.heap.size = b) : Rd (w.alloc (.cells vs 5)) (some ⟨b, 0, none⟩) xs.length xs.length xs := by
  subst hb
  obtain ⟨vs⟩ := vs
  simp only at h
  subst h
  exact Rd.own (own_lit8 w 0 xs (Nat.zero_le _) hm)
theorem own_basei {w : World} {B B' e size n : Nat} {v : Value} {xs : List Value} (h : w.ownsRow B e size v n xs) (hB : B' ≤ B) : w.ownsRow B' e size v n xs := by
  refine ⟨h.1, ?_⟩
  rcases h.2 with h | ⟨g, cap, cur, h1, h2, h3⟩
  · exact .inl h
  · exact .inr ⟨g, cap, cur, h1, by omega, h3⟩
/-- make of bytes where it is guarded. -/
theorem make_zz {w : World} {ops : Array Oper} {rest : List Oper} {o : Oper} {a : Act} {Q : Exit → Act → World → Prop} (hw : Region.wanted o (yielded ops a.tmps) = true)
    (l c : Operand) (hop : o.op = Op.makeSlice 29 l c) (base : Nat) (n : Nat) {kl kc : IntKind} {L C : Int} (hl : a.eval l = .int kl L) (hc : a.eval c = .int kc C) (hL : L = (n : Int)) (hC : C = (n : Int)) (b2 : n ≤ 1000000) (b4 : base ≤ w.heap.size)
    (hK : ∀ w', w'.ownsRow base 5 1 (.slice (some ⟨w.heap.size, 0, none⟩) n n) n (bv (List.replicate n 0)) → w.grownBy w' none → wpList Tryd.prog ops Q rest (a.put o.dst (.slice (some ⟨w.heap.size, 0, none⟩) n n)) w') :
    wpList Tryd.prog ops Q (o :: rest) a w := by
  obtain ⟨i0, hi, hz0, hz1, hz2⟩ := info_parts Tryd.infoU8
  obtain ⟨w', hrun, r1, r2⟩ := run_make_full (P := Tryd.prog) w base 29 5 i0 (.int .u8 0) 1 Tryd.underlying29 hi hz0 hz1 kl kc n (by rw [hz2]; omega) (by unfold maxLen; omega) b4
  subst hL
  subst hC
  unfold wpList
  rw [if_pos hw]
  left
  unfold Oper.wp
  simp [execOp, hop, hl, hc, hrun, Result.andThen]
  refine hK w' ?_ r2
  rw [Nat.mul_one] at r1
  rw [← bv_zero]
  exact r1
def ofW (w : Int) (xs : List UInt8) : List Nat := if mayB w = true then ofL w.toNat xs else []
def lackW (w : Int) (xs : List UInt8) : Nat := if mayB w = true then lk w.toNat (ofL w.toNat xs) else 0
def shW (n w : Int) : Nat × Nat × Nat := if okS n w = true then (shU n.toNat w.toNat, shV n.toNat w.toNat, shL n.toNat w.toNat) else (0, 0, 0)
def allW (w : Int) (xs : List UInt8) : List Nat := if okS xs.length w = true then allL w.toNat xs else []
/-- What a call gives: numbers that read so. -/
def GivesI (B : Nat) (w : World) (xs : List Nat) (e : Ending) (w' : World) : Prop := ∃ (A : Option Addr) (c : Nat), e = .returned (.slice A xs.length c) ∧ Ri w' A xs.length c xs ∧ Below B w w'
theorem GivesI.of_new {B : Nat} {w w' : World} {xs : List Nat} {e : Ending} (h : NewI B w xs e w') : GivesI B w xs e w' := by
  obtain ⟨A, c, h1, h2, _, h4⟩ := newi_len h
  exact ⟨A, c, h1, h2, h4⟩
/-- What the calls of package digits do, in a world that holds what they read. -/
structure DC where
  ok : World → Prop
  bel : ∀ {w w' : World}, ok w → Below w.heap.size w w' → ok w'
  may : ∀ (w : Int) (W : World), ok W → Calls Tryd.prog 80 #[.int .i64 w] W fun e w' => e = .returned (.bool (mayB w)) ∧ Below W.heap.size W w'
  of : ∀ (A : Option Addr) (n c : Nat) (xs : List UInt8) (w : Int) (W : World), ok W → Rd W A n c xs → n ≤ 100000 → Calls Tryd.prog 64 #[.slice A n c, .int .i64 w] W (GivesI W.heap.size W (ofW w xs))
  lack : ∀ (A : Option Addr) (n c : Nat) (xs : List UInt8) (w : Int) (W : World), ok W → Rd W A n c xs → n ≤ 100000 → Calls Tryd.prog 63 #[.slice A n c, .int .i64 w] W fun e w' => e = .returned (.int .i64 ((lackW w xs : Nat) : Int)) ∧ Below W.heap.size W w'
  shape : ∀ (n w : Int) (W : World), ok W → Calls Tryd.prog 62 #[.int .i64 n, .int .i64 w] W fun e w' => e = .returned (.tuple #[.int .i64 (((shW n w).1 : Nat) : Int), .int .i64 (((shW n w).2.1 : Nat) : Int), .int .i64 (((shW n w).2.2 : Nat) : Int)]) ∧ Below W.heap.size W w'
  all : ∀ (A : Option Addr) (n c : Nat) (xs : List UInt8) (w : Int) (W : World), ok W → Rd W A n c xs → n ≤ 100000 → Calls Tryd.prog 48 #[.slice A n c, .int .i64 w] W (GivesI W.heap.size W (allW w xs))
end Go.Proofs.YtkpfppiedadmbaaDoor.S7

/-
  What the document's own May and Shape of layer 7 do. No statement is proved here.
-/
namespace Go.Proofs.YtkpfppiedadmbaaDoor.S7
set_option linter.unusedSimpArgs false
set_option linter.unusedVariables false
set_option maxRecDepth 1024
open Go.RowKit

end Go.Proofs.YtkpfppiedadmbaaDoor.S7

/-
  What the document's own Of of layer 7 does. No statement is proved here.
-/
namespace Go.Proofs.YtkpfppiedadmbaaDoor.S7
set_option linter.unusedSimpArgs false
set_option linter.unusedVariables false
set_option maxRecDepth 1024
open Go.RowKit

end Go.Proofs.YtkpfppiedadmbaaDoor.S7

/-
  What the document's own calls of layer 7 do, on: Ints, Lack. No statement is proved here.
-/
namespace Go.Proofs.YtkpfppiedadmbaaDoor.S7
set_option linter.unusedSimpArgs false
set_option linter.unusedVariables false
set_option maxRecDepth 1024
open Go.RowKit

theorem lk_next (w : Nat) (xs : List Nat) (j d : Nat) (h : xs[j]? = some d) : lk w (xs.take (j + 1)) = lk w (xs.take j) + (2 ^ w - 1 - d) := by
  rw [List.take_add_one, h, lk_append]
  simp [lk]
end Go.Proofs.YtkpfppiedadmbaaDoor.S7

/-
  What the document's own calls of layer 7 do, on: Lack of no width. No statement is proved here.
-/
namespace Go.Proofs.YtkpfppiedadmbaaDoor.S7
set_option linter.unusedSimpArgs false
set_option linter.unusedVariables false
set_option maxRecDepth 1024
open Go.RowKit

end Go.Proofs.YtkpfppiedadmbaaDoor.S7

/-
  What the document's own calls of layer 7 do, on: All. No statement is proved here.
-/
namespace Go.Proofs.YtkpfppiedadmbaaDoor.S7
set_option linter.unusedSimpArgs false
set_option linter.unusedVariables false
set_option maxRecDepth 1024
open Go.RowKit

end Go.Proofs.YtkpfppiedadmbaaDoor.S7

/-
  What the document's own Sign of layer 15 does. No statement is proved here.
-/
namespace Go.Proofs.YtkpfppiedadmbaaDoor.S15
set_option linter.unusedSimpArgs false
set_option linter.unusedVariables false
set_option maxRecDepth 1024
open Go.RowKit

/-- Rows one behind another. -/
def cat (U : Nat → List UInt8) : Nat → List UInt8
  | 0 => []
  | k + 1 => cat U k ++ U k
theorem cat_flat (U : Nat → List UInt8) : ∀ k, ((List.range k).map U).flatten = cat U k
  | 0 => rfl
  | k + 1 => by rw [List.range_succ, List.map_append, List.flatten_append, cat_flat U k]; simp [cat]
theorem cat_len (U : Nat → List UInt8) (h : ∀ k, (U k).length = 32) : ∀ k, (cat U k).length = 32 * k
  | 0 => rfl
  | k + 1 => by rw [cat, List.length_append, cat_len U h k, h]; omega
theorem sig_cat (sec sd : List UInt8) (D : Ad) (text : List UInt8) : signL sec sd D text = cat (fun k => upL sd D k 0 ((S7.allL 4 text).getD k 0) (secL sec D k)) 67 := by
  rw [← cat_flat]
  rfl
theorem all_67 (text : List UInt8) (h : text.length = 32) : (S7.allL 4 text).length = 67 := by
  rw [S7.allL_length 4 (by unfold S7.wid; omega) text (by omega) (by omega), h]
  decide
end Go.Proofs.YtkpfppiedadmbaaDoor.S15

/-
  What the document's own Stands of layer 15 does. No statement is proved here.
-/
namespace Go.Proofs.YtkpfppiedadmbaaDoor.S15
set_option linter.unusedSimpArgs false
set_option linter.unusedVariables false
set_option maxRecDepth 1024
open Go.RowKit

theorem keep6q {w' : World} {d : Nat} {T' : TypeId} {ly tr qq : Nat} (h' : Bk w' d T' (qA ly tr qq)) : w'.cell? ⟨d, 0, none⟩ = some (.int .u32 (ly : Int)) ∧ w'.cell? ⟨d, 1, none⟩ = some (.int .u64 (tr : Int)) ∧ w'.cell? ⟨d, 2, none⟩ = some (.int .u32 0) ∧ w'.cell? ⟨d, 3, none⟩ = some (.int .u32 (qq : Int)) ∧ w'.cell? ⟨d, 4, none⟩ = some (.int .u32 0) ∧ w'.cell? ⟨d, 5, none⟩ = some (.int .u32 0) :=
  ⟨h'.cell 0, h'.cell 1, h'.cell 2, h'.cell 3, h'.cell 4, h'.cell 5⟩
end Go.Proofs.YtkpfppiedadmbaaDoor.S15

/-
  What the document's own Leaf, Sign and Stands of layer 15 do, of all that they are handed. No statement is proved here.
-/
namespace Go.Proofs.YtkpfppiedadmbaaDoor.S15
set_option linter.unusedSimpArgs false
set_option linter.unusedVariables false
set_option maxRecDepth 1024
open Go.RowKit

theorem cut_32 {sig : List UInt8} (h : sig.length = 2144) (k : Nat) (hk : k < 67) : ((sig.drop (32 * k)).take 32).length = 32 := by
  rw [List.length_take, List.length_drop]
  omega
theorem stand_get (sd : List UInt8) (D : Ad) (ds : List Nat) (sig : List UInt8) (k : Nat) (h : k < 67) : (standRows sd D ds sig)[k]?.getD [] = upL sd D k (ds.getD k 0) (15 - ds.getD k 0) ((sig.drop (32 * k)).take 32) := by simp [standRows, h]
theorem stand_32 (sd : List UInt8) (D : Ad) (ds : List Nat) (sig : List UInt8) (hs : sig.length = 2144) : ∀ r ∈ standRows sd D ds sig, r.length = 32 := by
  intro r hr
  obtain ⟨i, hi, rfl⟩ := List.mem_map.1 hr
  exact up_len _ _ _ _ _ _ (cut_32 hs i (by simpa using hi))
/-- Nothing is given. -/
def GivesNil (w : World) (e : Ending) (w' : World) : Prop := e = .returned (.slice none 0 0) ∧ Below w.heap.size w w'
end Go.Proofs.YtkpfppiedadmbaaDoor.S15

/-
  What the calls of package wplus are to do, as one structure, and the document's own beside them. No statement is proved here.
-/
namespace Go.Proofs.YtkpfppiedadmbaaDoor.S15
set_option linter.unusedSimpArgs false
set_option linter.unusedVariables false
set_option maxRecDepth 1024
open Go.RowKit

def leafW (sec salt sd : List UInt8) (ly tr qq : Nat) : List UInt8 := if mayN sec.length salt.length sd.length = true then leafL sec sd (adQ ly tr qq) else []
def signW (sec salt sd : List UInt8) (ly tr qq : Nat) (text : List UInt8) : List UInt8 := if mayN sec.length salt.length sd.length = true ∧ text.length = 32 then signL sec sd (adQ ly tr qq) text else []
def standW (sd : List UInt8) (ly tr qq : Nat) (text sig : List UInt8) : List UInt8 := if sd.length = 32 ∧ text.length = 32 ∧ sig.length = 2144 then standL sd (adQ ly tr qq) text sig else []
theorem leaf_len (sec sd : List UInt8) (D : Ad) : (leafL sec sd D).length = 32 := leafS_len sd D 7 0 _ (by rw [ends_len]; omega) (ends_32 _ _ _)
theorem stand_len (sd : List UInt8) (D : Ad) (text sig : List UInt8) (h : sig.length = 2144) : (standL sd D text sig).length = 32 := leafS_len sd D 7 0 _ (by simp [standRows]) (stand_32 _ _ _ _ h)
theorem mayN_iff {ns nl ne : Nat} : mayN ns nl ne = true ↔ ns = 32 ∧ nl = 32 ∧ ne = 32 := by simp [mayN]
/-- What a call gives: a row that reads so. -/
def GivesR (w : World) (xs : List UInt8) (e : Ending) (w' : World) : Prop := ∃ (A : Option Addr) (c : Nat), e = .returned (.slice A xs.length c) ∧ Rd w' A xs.length c xs ∧ Below w.heap.size w w'
theorem GivesNil.gives {w w' : World} {e : Ending} (h : GivesNil w e w') : GivesR w [] e w' := ⟨none, 0, h.1, Rd.nil_ _, h.2⟩
theorem Gives32.gives {w w' : World} {xs : List UInt8} {e : Ending} (h : Gives32 w xs e w') : GivesR w xs e w' := by
  obtain ⟨A, c, rfl, r, b⟩ := h
  have hl := r.len
  exact ⟨A, c, by rw [hl], by rw [hl]; exact r, b⟩
theorem gives_new {w w' : World} {xs : List UInt8} {e : Ending} (h : New w.heap.size w xs e w') : GivesR w xs e w' := by
  obtain ⟨A, c, rfl, ho, b⟩ := new_of h
  exact ⟨A, c, rfl, Rd.own ho, b⟩
/-- What the calls of package wplus do, in a world that holds what they read. -/
structure WC where
  ok : World → Prop
  bel : ∀ {w w' : World}, ok w → Below w.heap.size w w' → ok w'
  may : ∀ (As : Option Addr) (ns cs : Nat) (sec : List UInt8) (Al : Option Addr) (nl cl : Nat) (salt : List UInt8) (Ae : Option Addr) (ne ce : Nat) (sd : List UInt8) (w : World), ok w → Rd w As ns cs sec → Rd w Al nl cl salt → Rd w Ae ne ce sd →
    Calls Tryd.prog 41 #[.agg #[.slice As ns cs, .slice Al nl cl, .slice Ae ne ce]] w fun e w' => e = .returned (.bool (mayN ns nl ne)) ∧ Below w.heap.size w w'
  leaf : ∀ (As : Option Addr) (ns cs : Nat) (sec : List UInt8) (Al : Option Addr) (nl cl : Nat) (salt : List UInt8) (Ae : Option Addr) (ne ce : Nat) (sd : List UInt8) (ly tr qq : Nat) (w : World), ok w → Rd w As ns cs sec → Rd w Al nl cl salt → Rd w Ae ne ce sd → ly < 4294967296 → tr < 18446744073709551616 → qq < 4294967296 →
    Calls Tryd.prog 43 #[.agg #[.slice As ns cs, .slice Al nl cl, .slice Ae ne ce], .int .u32 (ly : Int), .int .u64 (tr : Int), .int .u32 (qq : Int)] w (New w.heap.size w (leafW sec salt sd ly tr qq))
  sign : ∀ (As : Option Addr) (ns cs : Nat) (sec : List UInt8) (Al : Option Addr) (nl cl : Nat) (salt : List UInt8) (Ae : Option Addr) (ne ce : Nat) (sd : List UInt8) (ly tr qq : Nat) (At : Option Addr) (nt ct : Nat) (text : List UInt8) (w : World), ok w → Rd w As ns cs sec → Rd w Al nl cl salt → Rd w Ae ne ce sd → Rd w At nt ct text → ly < 4294967296 → tr < 18446744073709551616 → qq < 4294967296 →
    Calls Tryd.prog 33 #[.agg #[.slice As ns cs, .slice Al nl cl, .slice Ae ne ce], .int .u32 (ly : Int), .int .u64 (tr : Int), .int .u32 (qq : Int), .slice At nt ct] w (New w.heap.size w (signW sec salt sd ly tr qq text))
  stands : ∀ (Ae : Option Addr) (ne ce : Nat) (sd : List UInt8) (ly tr qq : Nat) (At : Option Addr) (nt ct : Nat) (text : List UInt8) (Ag : Option Addr) (ng cg : Nat) (sig : List UInt8) (w : World), ok w → Rd w Ae ne ce sd → Rd w At nt ct text → Rd w Ag ng cg sig → ly < 4294967296 → tr < 18446744073709551616 → qq < 4294967296 →
    Calls Tryd.prog 38 #[.slice Ae ne ce, .int .u32 (ly : Int), .int .u64 (tr : Int), .int .u32 (qq : Int), .slice At nt ct, .slice Ag ng cg] w (New w.heap.size w (standW sd ly tr qq text sig))
end Go.Proofs.YtkpfppiedadmbaaDoor.S15
