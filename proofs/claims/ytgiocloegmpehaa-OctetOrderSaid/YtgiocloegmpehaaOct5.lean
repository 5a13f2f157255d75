/-
  What octet.Cut does: bytes in parts of the sizes that are handed in, or the code of what is wrong.
-/
import Derived.Test.YtgiocloegmpehaaOct4
import Derived.Deep.RegionHeld3
import Derived.Deep.RegionWith
import Derived.Deep.RegionLaw
import Derived.Deep.AppendLies
import Derived.Deep.LoopGhost
namespace Go.Proofs.Ytgiocloegmpehaa
set_option linter.unusedSimpArgs false
set_option linter.unusedVariables false
open Go.RowKit

theorem Try.infoBytes : (Try.prog.info? 23).map (fun i => (i.zero, i.size, i.bytes)) = some (some (.slice none 0 0), 1, 24) := by kernel_rfl

theorem own_below {w w' : World} {B e size n : Nat} {v : Value} {xs : List Value} (h : w.ownsRow B e size v n xs) (hb : Below w.heap.size w w') : w'.ownsRow B e size v n xs :=
  h.kept (row := none) ⟨hb.os, hb.tape, hb.output, hb.size, fun i hi _ => hb.block i hi⟩ (by cases hh : v.ownBlock <;> simp)
theorem block_below {w w' : World} {p : Nat} {o : Obj} (h : w.heap[p]? = some o) (hb : Below w.heap.size w w') : w'.heap[p]? = some o :=
  (hb.block p (Array.getElem?_eq_some_iff.1 h).1).trans h
theorem block_alloc {w : World} {p : Nat} {x : Obj} (h : w.heap[p]? = some x) (o : Obj) : (w.alloc o).heap[p]? = some x :=
  (Below.heap_alloc w o p (Array.getElem?_eq_some_iff.1 h).1).trans h
theorem block_grown {w w' : World} {p : Nat} {o : Obj} {row : Option Nat} (h : w.heap[p]? = some o) (hg : w.grownBy w' row) (hr : row ≠ some p) : w'.heap[p]? = some o :=
  (hg.block p (Array.getElem?_eq_some_iff.1 h).1 (fun e => hr e.symm)).trans h
theorem grown_below {w w' : World} {B : Nat} {row : Option Nat} (hg : w.grownBy w' row) (hB : B ≤ w.heap.size) (hr : ∀ g, row = some g → B ≤ g) : Below B w w' := (Below.refl _ _).grown hg hB hr

/-- A slice of ints reads as ss. -/
structure RdI (w : World) (A : Option Addr) (n c : Nat) (ss : List Int) : Prop where
  len : ss.length = n
  cap : n ≤ c
  max : c ≤ maxLen
  rng : ∀ x ∈ ss, x ≤ (maxLen : Nat)
  at_ : 0 < n → ∃ b off, A = some ⟨b, off, none⟩ ∧ b < w.heap.size ∧ ∀ j, j < n → w.cell? ⟨b, off + j, none⟩ = some (.int .i64 (ss[j]?.getD 0))
theorem RdI.below {w w' : World} {A : Option Addr} {n c : Nat} {ss : List Int} (h : RdI w A n c ss) (hb : Below w.heap.size w w') : RdI w' A n c ss :=
  ⟨h.len, h.cap, h.max, h.rng, fun hn => by
    obtain ⟨b, off, e, hlt, hc⟩ := h.at_ hn
    exact ⟨b, off, e, Nat.lt_of_lt_of_le hlt hb.size, fun j hj => (hb.cell (p := ⟨b, off + j, none⟩) hlt).trans (hc j hj)⟩⟩

/-- Two rows of unlike element types don't share a block. -/
theorem own_apart {w : World} {B B' e e' size size' n n' : Nat} {v v' : Value} {xs xs' : List Value} (h : w.ownsRow B e size v n xs) (h' : w.ownsRow B' e' size' v' n' xs') (hne : e ≠ e') :
    v.ownBlock = none ∨ v.ownBlock ≠ v'.ownBlock := by
  rcases h.2 with ⟨rfl, _⟩ | ⟨g, cap, cur, rfl, _, hh, _⟩
  · exact .inl rfl
  · right
    rcases h'.2 with ⟨rfl, _⟩ | ⟨g', cap', cur', rfl, _, hh', _⟩
    · simp [Value.ownBlock]
    · intro e1
      have e2 : g = g' := by simpa [Value.ownBlock] using e1
      subst e2
      rw [hh] at hh'
      injection hh' with hh'
      injection hh' with _ ht
      exact hne ht
theorem own_set {w : World} {B e size n p : Nat} {t : TypeId} {cs : Array Value} {v : Value} {xs : List Value} (h : w.ownsRow B e size v n xs) (hp : w.heap[p]? = some (.cells cs t (0, 0))) (hne : e ≠ t) (off : Nat) (u : Value) :
    (w.setCell ⟨p, off, none⟩ u).ownsRow B e size v n xs := by
  refine ⟨h.1, ?_⟩
  rcases h.2 with h0 | ⟨g, cap, cur, h1, h2, hh, rest⟩
  · exact .inl h0
  · refine .inr ⟨g, cap, cur, h1, h2, ?_, rest⟩
    rw [Below.heap_setCell w _ u g (fun e1 => by
      have e2 : g = p := e1
      subst e2
      rw [hh] at hp
      injection hp with hp
      injection hp with _ ht
      exact hne ht)]
    exact hh
theorem own_mono {w : World} {B B' e size n : Nat} {v : Value} {xs : List Value} (h : w.ownsRow B e size v n xs) (hB : B' ≤ B) : w.ownsRow B' e size v n xs := by
  refine ⟨h.1, ?_⟩
  rcases h.2 with h0 | ⟨g, cap, cur, h1, h2, rest⟩
  · exact .inl h0
  · exact .inr ⟨g, cap, cur, h1, Nat.le_trans hB h2, rest⟩

/-- Values that are slices of new memory and read as xss, row by row. -/
structure OwnVs (w : World) (B : Nat) (vs : List Value) (xss : List (List UInt8)) : Prop where
  len : vs.length = xss.length
  at_ : ∀ j, j < xss.length → ∃ A n c, vs[j]? = some (.slice A n c) ∧ w.ownsRow B 5 1 (.slice A n c) n (bv (xss[j]?.getD []))
theorem OwnVs.keep {w w' : World} {B : Nat} {vs : List Value} {xss : List (List UInt8)} (h : OwnVs w B vs xss)
    (hk : ∀ (v : Value) (n : Nat) (xs : List Value), w.ownsRow B 5 1 v n xs → w'.ownsRow B 5 1 v n xs) : OwnVs w' B vs xss :=
  ⟨h.len, fun j hj => by
    obtain ⟨A, n, c, h1, h2⟩ := h.at_ j hj
    exact ⟨A, n, c, h1, hk _ _ _ h2⟩⟩
theorem OwnVs.nil_ (w : World) (B : Nat) : OwnVs w B [] [] := ⟨rfl, fun j hj => absurd hj (by simp)⟩
theorem OwnVs.snoc {w : World} {B : Nat} {vs : List Value} {xss : List (List UInt8)} {A : Option Addr} {n c : Nat} {xs : List UInt8} (h : OwnVs w B vs xss)
    (h' : w.ownsRow B 5 1 (.slice A n c) n (bv xs)) : OwnVs w B (vs ++ [.slice A n c]) (xss ++ [xs]) :=
  ⟨by simp [h.len], fun j hj => by
    have hl := h.len
    rcases Nat.lt_or_ge j xss.length with h1 | h1
    · obtain ⟨A', n', c', h2, h3⟩ := h.at_ j h1
      exact ⟨A', n', c', by rw [List.getElem?_append_left (by omega)]; exact h2, by rw [List.getElem?_append_left h1]; exact h3⟩
    · obtain rfl : j = xss.length := by simp at hj; omega
      exact ⟨A, n, c, by rw [← hl]; simp, by simpa using h'⟩⟩
theorem RdBs.of_own {w : World} {B e n : Nat} {A : Option Addr} {c : Nat} {B' : Nat} {vs : List Value} {xss : List (List UInt8)} (h : w.ownsRow B e 1 (.slice A n c) n vs) (hv : OwnVs w B' vs xss) : RdBs w A n c xss := by
  have hl : vs.length = n := by have := h.1; simpa using this
  have hl' := hv.len
  rcases h.2 with ⟨h1, hn⟩ | ⟨g, cap, cur, h1, _, hh, hnc, hcm, _, htake⟩
  · injection h1 with h1 h2 h3
    subst h1 h2 h3
    have : xss = [] := List.eq_nil_of_length_eq_zero (by omega)
    subst this
    exact RdBs.nil_ w
  · injection h1 with h1 h2 h3
    subst h1 h3
    refine ⟨by omega, hnc, hcm, (fun h => by cases h), fun hn => ⟨g, 0, rfl, (Array.getElem?_eq_some_iff.1 hh).1, fun j hj => ?_⟩⟩
    obtain ⟨A', n', c', h2, h3⟩ := hv.at_ j (by omega)
    have := h.cellAt j (by omega)
    exact ⟨A', n', c', by rw [Nat.zero_add, this]; exact h2, Rd.own h3⟩

/-- What a cut answers: the parts, and the code. -/
def cutF (ps : List (List UInt8)) (b : List UInt8) : List Int → List (List UInt8) × Int
  | [] => if 0 < b.length then ([], 5) else (ps, 0)
  | n :: ns => if n < 0 then ([], 1) else if (b.length : Int) < n then ([], 2) else cutF (ps ++ [b.take n.toNat]) (b.drop n.toNat) ns
def cutL (b : List UInt8) (ns : List Int) : List (List UInt8) × Int := cutF [] b ns

theorem cut_drop (ss : List Int) (k : Nat) (hk : k < ss.length) : ss.drop k = (ss[k]?.getD 0) :: ss.drop (k + 1) := by
  rw [List.drop_eq_getElem_cons hk, List.getElem?_eq_getElem hk]; rfl

def CutEnd (w : World) (r : List (List UInt8) × Int) (e : Ending) (w' : World) : Prop :=
  ∃ (A : Option Addr) (n c : Nat), e = .returned (.tuple #[.slice A n c, .int .i64 r.2]) ∧ RdBs w' A n c r.1 ∧ Below w.heap.size w w'

/-- What holds at the head of Cut's loop. -/
structure CutAt (w : World) (xs : List UInt8) (ss : List Int) (k : Nat) (v vout : Value) (wr : World) : Prop where
  ex : ∃ (A : Option Addr) (m c d : Nat) (vs : List Value) (ps : List (List UInt8)), v = .slice A m c ∧ Rd w A m c (xs.drop d) ∧ cutF ps (xs.drop d) (ss.drop k) = cutL xs ss ∧ OwnVs wr w.heap.size vs ps ∧
    wr.ownsRow (w.heap.size + 1) 23 1 vout k vs
  hq : Bk wr w.heap.size 38 #[.int .i64 0]
  bel : Below w.heap.size w wr

theorem cut_eq (xs : List UInt8) (ss : List Int) (k d : Nat) (ps : List (List UInt8)) (q : Int) (hk : k < ss.length) (e : cutF ps (xs.drop d) (ss.drop k) = cutL xs ss) (hq : ss[k]?.getD 0 = q) :
    cutL xs ss = if q < 0 then ([], 1) else if ((xs.drop d).length : Int) < q then ([], 2) else cutF (ps ++ [(xs.drop d).take q.toNat]) ((xs.drop d).drop q.toNat) (ss.drop (k + 1)) := by
  rw [← e, cut_drop ss k hk, hq]; rfl

theorem cut_start (w : World) (A : Option Addr) (m c : Nat) (xs : List UInt8) (ss : List Int) (h : Rd w A m c xs) :
    CutAt w xs ss 0 (.slice A m c) (.slice none 0 0) (w.alloc (.cells #[.int .i64 0] 38)) :=
  ⟨⟨A, m, c, 0, [], [], rfl, by simpa using h, rfl, OwnVs.nil_ _ _, World.ownsRow_nil _ _ _ _⟩, Bk.new _ _ _, (Below.refl _ _).alloc (Nat.le_refl _) _⟩

theorem cut_door (w wr : World) (code : Int) (r : List (List UInt8) × Int) (tmps : Array Value) (hq : Bk wr w.heap.size 38 #[.int .i64 0]) (hb : Below w.heap.size w wr) (hr : r = ([], code))
    (h4 : tmps.getD 4 undef = .slice none 0 0) (h5 : tmps.getD 5 undef = .pointer (some ⟨w.heap.size, 0, none⟩)) :
    bodyPostD Try.prog Try.f19 (CutEnd w r) (Exit.panic [LV.wrg code])
      { tmps := tmps, defers := [{ target := Target.fn (Fn.func 21) #[.pointer (some ⟨w.heap.size, 0, none⟩)], args := #[] }] } wr := by
  refine leaves_cons (f := 21) (args := #[.pointer (some ⟨w.heap.size, 0, none⟩)]) (by simp) (by simp [go_sem]) ?_
  refine (cut_caught w.heap.size 0 code [] wr hq).mono ?_
  rintro e u' w'' ⟨rfl, rfl, w1, hb1, rfl⟩
  subst hr
  have c1 := cell_of_one ((hq.below hb1 hq.lt).put 0 (.int .i64 code))
  have h4' : tmps[4]?.getD undef = .slice none 0 0 := by simpa using h4
  have h5' : tmps[5]?.getD undef = .pointer (some ⟨w.heap.size, 0, none⟩) := by simpa using h5
  simp [Leaves, settle, results, Try.results19, go_sem, h4', h5', c1]
  exact ⟨none, 0, 0, rfl, RdBs.nil_ _, (hb.trans (hb1.mono hb.size)).setCell (Nat.le_refl _) _⟩

theorem cut_next {w wr w1 w3 : World} {xs : List UInt8} {ss : List Int} {k m c d t n1 c1 B1 : Nat} {A A1 : Option Addr} {vs : List Value} {ps : List (List UInt8)} {vout v' : Value} {T : TypeId}
    (hrd : Rd w A m c (xs.drop d)) (heq : cutL xs ss = cutF (ps ++ [(xs.drop d).take t]) ((xs.drop d).drop t) (ss.drop (k + 1))) (hvs : OwnVs wr w.heap.size vs ps)
    (hown : wr.ownsRow (w.heap.size + 1) 23 1 vout k vs) (hq : Bk wr w.heap.size 38 #[.int .i64 0]) (hbel : Below w.heap.size w wr)
    (hbw1 : Below wr.heap.size wr w1) (hB1 : w.heap.size ≤ B1) (ho1 : w1.ownsRow B1 5 1 (.slice A1 n1 c1) n1 (bv ((xs.drop d).take t)))
    (hown3 : w3.ownsRow (w.heap.size + 1) 23 1 v' (k + 1) (vs ++ [.slice A1 n1 c1])) (hg : (w1.alloc (.cells #[.slice A1 n1 c1] T)).grownBy w3 vout.ownBlock) (htm : t ≤ m) :
    CutAt w xs ss (k + 1) (.slice (if c = t then A else A.map (·.add t)) (m - t) (c - t)) v' w3 := by
  have hvo : ∀ g, vout.ownBlock = some g → w.heap.size + 1 ≤ g := fun g hg => (hown.lt g hg).1
  have hownA := (own_below hown hbw1).alloc (.cells #[.slice A1 n1 c1] T)
  have hq3 := block_grown (block_alloc (block_below hq hbw1) (.cells #[.slice A1 n1 c1] T)) hg (fun e => by have h5 : w.heap.size + 1 ≤ w.heap.size := hvo _ e; omega)
  have hb3 : Below w.heap.size w w3 := by
    have s1 := hbel.size
    have s2 := hbw1.size
    exact ((hbel.trans (hbw1.mono s1)).alloc (by omega) _).grown hg (by simp; omega) (fun g h => by have := hvo g h; omega)
  have keep : ∀ (v : Value) (n : Nat) (xs : List Value), (w1.alloc (.cells #[.slice A1 n1 c1] T)).ownsRow w.heap.size 5 1 v n xs → w3.ownsRow w.heap.size 5 1 v n xs := by
    intro v n xs h
    exact h.kept hg (own_apart h hownA (by decide))
  refine ⟨⟨_, m - t, c - t, d + t, _, _, rfl, ?_, ?_, ((hvs.keep fun v n xs h => (own_below h hbw1).alloc _).snoc ((own_mono ho1 hB1).alloc _)).keep keep, hown3⟩, hq3, hb3⟩
  · have := hrd.cut htm
    rwa [List.drop_drop] at this
  · rw [heq, List.drop_drop]

theorem cut_done (w wr : World) (A : Option Addr) (n c : Nat) (vs : List Value) (ps : List (List UInt8)) (r : List (List UInt8) × Int) (tmps : Array Value)
    (hq : Bk wr w.heap.size 38 #[.int .i64 0]) (hb : Below w.heap.size w wr) (hown : wr.ownsRow (w.heap.size + 1) 23 1 (.slice A n c) n vs) (hvs : OwnVs wr w.heap.size vs ps) (hr : r = (ps, 0))
    (h4 : tmps.getD 4 undef = .slice A n c) (h5 : tmps.getD 5 undef = .pointer (some ⟨w.heap.size, 0, none⟩)) :
    bodyPostD Try.prog Try.f19 (CutEnd w r) Exit.ret
      { tmps := tmps, defers := [{ target := Target.fn (Fn.func 21) #[.pointer (some ⟨w.heap.size, 0, none⟩)], args := #[] }] } (wr.setCell ⟨w.heap.size, 0, none⟩ (.int .i64 0)) := by
  have hq1 : Bk (wr.setCell ⟨w.heap.size, 0, none⟩ (.int .i64 0)) w.heap.size 38 #[.int .i64 0] := hq.put 0 (.int .i64 0)
  have hq2 : Bk ((wr.setCell ⟨w.heap.size, 0, none⟩ (.int .i64 0)).setCell ⟨w.heap.size, 0, none⟩ (.int .i64 0)) w.heap.size 38 #[.int .i64 0] := hq1.put 0 (.int .i64 0)
  have c2 := cell_of_one hq2
  have h4' : tmps[4]?.getD undef = .slice A n c := by simpa using h4
  have h5' : tmps[5]?.getD undef = .pointer (some ⟨w.heap.size, 0, none⟩) := by simpa using h5
  have ho2 := own_set (own_set hown hq (by decide) 0 (.int .i64 0)) hq1 (by decide) 0 (.int .i64 0)
  have hv2 := hvs.keep fun v m xs h => own_set (own_set h hq (by decide) 0 (.int .i64 0)) hq1 (by decide) 0 (.int .i64 0)
  refine leaves_cons (f := 21) (args := #[.pointer (some ⟨w.heap.size, 0, none⟩)]) (by simp) (by simp [go_sem]) ?_
  refine (cut_idle w.heap.size 0 _ hq1).mono ?_
  rintro e u' w'' ⟨rfl, rfl, rfl⟩
  subst hr
  simp [Leaves, settle, results, Try.results19, go_sem, h4', h5', c2]
  exact ⟨A, n, c, rfl, RdBs.of_own ho2 hv2, (hb.setCell (Nat.le_refl _) _).setCell (Nat.le_refl _) _⟩

theorem first_bad (A : Option Addr) (m c : Nat) (q : Int) (w : World) (hq : q < 0 ∨ (m : Int) < q) (hm : q ≤ (maxLen : Nat)) :
    Calls Try.prog 23 #[.slice A m c, .int .i64 q] w fun e w' => e = .panicked [LV.wrg (if q < 0 then 1 else 2)] ∧ w = w' := by
  by_cases hneg : q < 0
  · rw [if_pos hneg]; exact first_neg A m c q w hneg
  · rw [if_neg hneg]
    obtain ⟨k, rfl⟩ := Int.eq_ofNat_of_zero_le (show 0 ≤ q by omega)
    exact first_short A m c k w (by omega) (by omega)

set_option maxHeartbeats 1000000 in
theorem cut_any (A A2 : Option Addr) (m c n c2 : Nat) (xs : List UInt8) (ss : List Int) (w : World) (h : Rd w A m c xs) (h2 : RdI w A2 n c2 ss) (hm : m ≤ 140737488355328) (hn : n ≤ 1000000000) :
    Calls Try.prog 19 #[.slice A m c, .slice A2 n c2] w (CutEnd w (cutL xs ss)) := by
  have hmf : ∀ (fn : Fn) (first cap : Array Value) (w : World), (Instr.makeFunc fn first cap).run Try.prog w = .ok (.func fn first cap) w := fun _ _ _ _ => rfl
  have HY := Lib.hid (fun X => LV.need_yes 5 X)
  have HN := Lib.hid (fun X => LV.need_no 5 X)
  obtain ⟨i0, hi, hz0, hz1, hz2⟩ := info_parts Try.infoBytes
  go_enter_defers Try.func19, Try.ntmps19
  go_wp2
  go_loopw [0, 6, 8, 12] (fun v vo _ i wr => ∃ k : Nat, k ≤ n ∧ i = .int .i64 (k : Int) ∧ CutAt w xs ss k v vo wr) (fun _ _ _ i _ => n - (intOf i).toNat)
  case atStart => exact ⟨0, Nat.zero_le _, rfl, cut_start w A m c xs ss h⟩
  case round =>
    obtain ⟨k, hk, rfl, hat⟩ := hrel
    obtain ⟨⟨A, m, c, d, vs, ps, rfl, hrw, heq, hvs, hown⟩, hq, hbel⟩ := hat
    have hrd := hrw.below hbel
    have cq := cell_of_one hq
    have fq := free_of_one hq
    by_cases hlt : k < n
    · obtain ⟨b, off, rfl, hb, hcell⟩ := (h2.below hbel).at_ (by omega)
      obtain ⟨q, hqq⟩ : ∃ q, ss[k]?.getD 0 = q := ⟨_, rfl⟩
      have hc := hcell k hlt
      rw [hqq] at hc
      have hqm : q ≤ (maxLen : Nat) := by rw [← hqq, List.getElem?_eq_getElem (by have := h2.len; omega)]; exact h2.rng _ (List.getElem_mem _)
      have HE := Lib.hid (cut_eq xs ss k d ps q (by have := h2.len; omega) heq hqq)
      clear hcell hqq heq
      by_cases hbad : q < 0 ∨ (m : Int) < q
      · have HR : Hid (cutL xs ss = ([], if q < 0 then 1 else 2)) := by
          show cutL xs ss = _
          rw [HE.out, hrd.len]
          split
          · rfl
          · rw [if_pos (by omega)]
        have HB := Lib.hid (fun W => first_bad A m c q W hbad hqm)
        obtain ⟨C, hC⟩ : ∃ C : Int, C = if q < 0 then 1 else 2 := ⟨_, rfl⟩
        rw [← hC] at HB HR
        clear hC
        clear hbad
        go_wp2_with (go_at_call 23; ((with_reducible refine (HB.out _).mono ?_); rintro e w' ⟨rfl, rfl⟩))
        exact cut_door w wr _ (cutL xs ss) _ hq hbel HR.out rfl rfl
      · obtain ⟨t, rfl⟩ := Int.eq_ofNat_of_zero_le (show 0 ≤ q by omega)
        have htm : t ≤ m := by omega
        have hti : (t : Int) ≤ (m : Int) := by omega
        have ht0 : (0 : Int) ≤ (t : Int) := by omega
        clear hbad
        have HC : Hid (cutL xs ss = cutF (ps ++ [(xs.drop d).take t]) ((xs.drop d).drop t) (ss.drop (k + 1))) := by
          show cutL xs ss = _
          rw [HE.out, if_neg (by omega), hrd.len, if_neg (by omega)]
          simp
        have hmt : m ≤ 140737488355328 := by have e1 := hrd.len; have e2 := h.len; simp at e1; omega
        have hcap := hrd.cap
        have hws := hbel.size
        have HF := Lib.hid (first_ok A m c t (xs.drop d) wr hrd htm (by omega))
        have HW := Lib.hid hown
        go_wp2_with (first
          | (go_at_call 23; ((with_reducible refine HF.out.mono ?_); rintro e w1 ⟨A1, n1, c1, rfl, ho1, hb1⟩; have HO1 := Lib.hid ho1; have HB1 := Lib.hid hb1; have hws1 := hb1.size; clear ho1 hb1))
          | (at_builtin; refine wpList_append_own _ (by rfl) _ _ 37 (by rfl) (w.heap.size + 1) 23 i0 (.slice none 0 0) 1 24 Try.underlying37 hi hz0 hz1 hz2 rfl (by decide) _ _ _ (by rfl) ((own_below HW.out HB1.out).alloc _) ⟨w1.heap.size, 0, none⟩ 1 1 [.slice A1 n1 c1] (by rfl) (by rfl) (World.news_of_block (heap_alloc_new w1 _)) (by simp [Value.oneCell']) (by simp only [maxLen]; omega) (by omega) (by simp; omega) ?_; intro v' w3 hown3 hgrow _; have HO3 := Lib.hid hown3; have HG3 := Lib.hid hgrow; clear hown3 hgrow))
        go_roundw
        case rel => exact ⟨k + 1, by omega, by go_num, cut_next hrw HC.out hvs HW.out hq hbel HB1.out hbel.size HO1.out HO3.out HG3.out htm⟩
        case measure => simp [intOf]; omega
    · obtain rfl : k = n := by omega
      have hd : ss.drop k = [] := List.drop_eq_nil_of_le (by have := h2.len; omega)
      rw [hd] at heq
      have hlen := hrw.len
      by_cases hm0 : 0 < m
      · have HR : Hid (cutL xs ss = ([], 5)) := by
          show cutL xs ss = _
          rw [← heq]; simp only [cutF]; rw [if_pos (by omega)]
        have q1 : ((m : Int) == 0) = false := by simp; omega
        clear heq hd
        go_wp2_with (go_at_call 24; ((with_reducible refine (HN.out _).mono ?_); rintro e w' ⟨rfl, rfl⟩))
        exact cut_door w wr 5 (cutL xs ss) _ hq hbel HR.out rfl rfl
      · have HR : Hid (cutL xs ss = (ps, 0)) := by
          show cutL xs ss = _
          rw [← heq]; simp only [cutF]; rw [if_neg (by omega)]
        obtain rfl : m = 0 := by omega
        clear heq hd
        obtain ⟨Ao, co, rfl⟩ := own_form hown
        go_wp2_with (go_at_call 24; ((with_reducible refine (HY.out _).mono ?_); rintro e w' ⟨rfl, rfl⟩))
        exact cut_done w wr Ao k co vs ps (cutL xs ss) _ hq hbel hown hvs HR.out rfl rfl
end Go.Proofs.Ytgiocloegmpehaa
