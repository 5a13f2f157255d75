/-
  Texts put together: OctC, ReC. No statement is proved here.
-/
import Derived.Test.YtnoflgkjdibblaaGreatDoorWa13
import Derived.Test.YtnoflgkjdibblaaGreatDoorWa19
import Derived.Deep.RegionHeld3
import Derived.Deep.RegionWith
import Derived.Deep.RegionLaw
import Derived.Deep.AppendLies
import Derived.Deep.LoopGhost

/-
  What the landed octet.Cut does: bytes in parts, each in new memory, or the code of what is wrong. No statement is proved here.
-/
namespace Go.Proofs.YtnoflgkjdibblaaGreatDoor.CT
set_option linter.unusedSimpArgs false
set_option linter.unusedVariables false
set_option maxRecDepth 4096
open Go.RowKit

theorem first_ok (A : Option Addr) (m c n : Nat) (xs : List UInt8) (w : World) (h : Rd w A m c xs) (hn : n ≤ m) (hm : n ≤ 140737488355328) :
    Calls Tryz.prog 123 #[.slice A m c, .int .i64 (n : Int)] w (New w.heap.size w (xs.take n)) := by
  have hcap := h.cap
  have hmax := h.max
  unfold maxLen at hmax
  have hr := RdBs.built1 w 23 (h.take hn)
  have ht : [xs.take n].flatten.length ≤ 140737488355328 := by simp; omega
  have HY := Lib.hid (fun k X => LV.need_yes k X)
  have q1 : decide (n ≤ m) = true := by simpa using hn
  go_enter Tryz.func123, Tryz.ntmps123
  go_wp2_with (first
    | (go_at_call 30; ((with_reducible refine (HY.out _ _).mono ?_); rintro e w1 ⟨rfl, rfl⟩))
    | (go_at_call 32; refine (cat_any _ 1 1 _ _ hr ht).mono ?_; rintro e w' ⟨A1, n1, c1, rfl, ho, hb⟩))
  go_ret
  exact New.from ((Below.refl _ _).alloc (Nat.le_refl _) _) ⟨A1, n1, c1, rfl, by simpa using ho, hb⟩
theorem first_neg (A : Option Addr) (m c : Nat) (n : Int) (w : World) (hn : n < 0) :
    Calls Tryz.prog 123 #[.slice A m c, .int .i64 n] w fun e w' => e = .panicked [LV.wrg 1] ∧ w = w' := by
  have HN := Lib.hid (fun k X => LV.need_no k X)
  have q1 : decide (0 ≤ n) = false := by simpa using hn
  clear hn
  go_enter Tryz.func123, Tryz.ntmps123
  go_wp2_with (go_at_call 30; ((with_reducible refine (HN.out _ _).mono ?_); rintro e w1 ⟨rfl, rfl⟩))
  exact ⟨rfl, rfl, rfl⟩
theorem first_short (A : Option Addr) (m c n : Nat) (w : World) (hn : m < n) (hm : n ≤ maxLen) :
    Calls Tryz.prog 123 #[.slice A m c, .int .i64 n] w fun e w' => e = .panicked [LV.wrg 2] ∧ w = w' := by
  unfold maxLen at hm
  have HY := Lib.hid (fun X => LV.need_yes 1 X)
  have HN := Lib.hid (fun X => LV.need_no 2 X)
  have q1 : decide (n ≤ m) = false := by simpa using hn
  clear hn
  go_enter Tryz.func123, Tryz.ntmps123
  go_wp2_with (first
    | (go_at_call 30; ((with_reducible refine (HY.out _).mono ?_); rintro e w1 ⟨rfl, rfl⟩))
    | (go_at_call 30; ((with_reducible refine (HN.out _).mono ?_); rintro e w1 ⟨rfl, rfl⟩)))
  exact ⟨rfl, rfl, rfl⟩
theorem cut_caught (q : Nat) (y k : Int) (older : List PanicEntry) (w : World) (hq : Bk w q 29 #[.int .i64 y]) :
    CallsD Tryz.prog 122 #[.pointer (some ⟨q, 0, none⟩)] (.panicking (LV.wrg k :: older)) w fun e u' w' =>
      e = .returned (.tuple #[]) ∧ u' = .panicking ({ v := .iface 114 (.agg #[.int .i64 k]), recovered := true } :: older) ∧ ∃ w1, Below w.heap.size w w1 ∧ w' = w1.setCell ⟨q, 0, none⟩ (.int .i64 k) := by
  have c1 := cell_of_one hq
  have f1 := free_of_one hq
  refine callsD_of_wpS Tryz.func122 rfl fun c₀ cs hu => ?_
  apply wpS_region
  simp [wpOpsS, go_sem, recoverD, hu, LV.wrg, Tryz.ntmps122, Exit.thenS, Array.replicate, List.replicate]
  refine (LV.told_wrong k w).mono ?_
  rintro e w' ⟨rfl, hb⟩
  have c2 := cell_of_one (hq.below hb hq.lt)
  have f2 := free_of_one (hq.below hb hq.lt)
  simp [go_sem, c2, f2, Oper.upon, bodyPostS, results, Tryz.results122]
  exact ⟨w', hb, rfl⟩
theorem cut_idle (q : Nat) (y : Int) (w : World) (hq : Bk w q 29 #[.int .i64 y]) :
    CallsD Tryz.prog 122 #[.pointer (some ⟨q, 0, none⟩)] .returning w fun e u' w' => e = .returned (.tuple #[]) ∧ u' = .returning ∧ w' = w.setCell ⟨q, 0, none⟩ (.int .i64 0) := by
  have c1 := cell_of_one hq
  have f1 := free_of_one hq
  refine callsD_of_wpS Tryz.func122 rfl fun c₀ cs hu => ?_
  apply wpS_region
  simp [wpOpsS, go_sem, recoverD, hu, Tryz.ntmps122, Exit.thenS, Array.replicate, List.replicate]
  refine (LV.told_nil w).mono ?_
  rintro e w' ⟨rfl, rfl⟩
  simp [go_sem, c1, f1, Oper.upon, bodyPostS, results, Tryz.results122]
  cases c₀
  cases hu
  rfl

theorem infoBytesC : (Tryz.prog.info? 23).map (fun i => (i.zero, i.size, i.bytes)) = some (some (.slice none 0 0), 1, 24) := by kernel_rfl

theorem own_below {w w' : World} {B e size n : Nat} {v : Value} {xs : List Value} (h : w.ownsRow B e size v n xs) (hb : Below w.heap.size w w') : w'.ownsRow B e size v n xs :=
  h.kept (row := none) ⟨hb.os, hb.tape, hb.output, hb.size, fun i hi _ => hb.block i hi⟩ (by cases hh : v.ownBlock <;> simp)
theorem block_below {w w' : World} {p : Nat} {o : Obj} (h : w.heap[p]? = some o) (hb : Below w.heap.size w w') : w'.heap[p]? = some o :=
  (hb.block p (Array.getElem?_eq_some_iff.1 h).1).trans h
theorem block_alloc {w : World} {p : Nat} {x : Obj} (h : w.heap[p]? = some x) (o : Obj) : (w.alloc o).heap[p]? = some x :=
  (Below.heap_alloc w o p (Array.getElem?_eq_some_iff.1 h).1).trans h
theorem block_grown {w w' : World} {p : Nat} {o : Obj} {row : Option Nat} (h : w.heap[p]? = some o) (hg : w.grownBy w' row) (hr : row ≠ some p) : w'.heap[p]? = some o :=
  (hg.block p (Array.getElem?_eq_some_iff.1 h).1 (fun e => hr e.symm)).trans h
theorem grown_below {w w' : World} {B : Nat} {row : Option Nat} (hg : w.grownBy w' row) (hB : B ≤ w.heap.size) (hr : ∀ g, row = some g → B ≤ g) : Below B w w' := (Below.refl _ _).grown hg hB hr

/-- A slice of ints reads as ss. -/
structure RdI (w : World) (A : Option Addr) (n c : Nat) (ss : List Int) : Prop where
  len : ss.length = n
  cap : n ≤ c
  max : c ≤ maxLen
  rng : ∀ x ∈ ss, x ≤ (maxLen : Nat)
  at_ : 0 < n → ∃ b off, A = some ⟨b, off, none⟩ ∧ b < w.heap.size ∧ ∀ j, j < n → w.cell? ⟨b, off + j, none⟩ = some (.int .i64 (ss[j]?.getD 0))
theorem RdI.below {w w' : World} {A : Option Addr} {n c : Nat} {ss : List Int} (h : RdI w A n c ss) (hb : Below w.heap.size w w') : RdI w' A n c ss :=
  ⟨h.len, h.cap, h.max, h.rng, fun hn => by
    obtain ⟨b, off, e, hlt, hc⟩ := h.at_ hn
    exact ⟨b, off, e, Nat.lt_of_lt_of_le hlt hb.size, fun j hj => (hb.cell (p := ⟨b, off + j, none⟩) hlt).trans (hc j hj)⟩⟩

/-- Two rows of unlike element types don't share a block. -/
theorem own_apart {w : World} {B B' e e' size size' n n' : Nat} {v v' : Value} {xs xs' : List Value} (h : w.ownsRow B e size v n xs) (h' : w.ownsRow B' e' size' v' n' xs') (hne : e ≠ e') :
    v.ownBlock = none ∨ v.ownBlock ≠ v'.ownBlock := by
  rcases h.2 with ⟨rfl, _⟩ | ⟨g, cap, cur, rfl, _, hh, _⟩
  · exact .inl rfl
  · right
    rcases h'.2 with ⟨rfl, _⟩ | ⟨g', cap', cur', rfl, _, hh', _⟩
    · simp [Value.ownBlock]
    · intro e1
      have e2 : g = g' := by simpa [Value.ownBlock] using e1
      subst e2
      rw [hh] at hh'
      injection hh' with hh'
      injection hh' with _ ht
      exact hne ht
theorem own_set {w : World} {B e size n p : Nat} {t : TypeId} {cs : Array Value} {v : Value} {xs : List Value} (h : w.ownsRow B e size v n xs) (hp : w.heap[p]? = some (.cells cs t (0, 0))) (hne : e ≠ t) (off : Nat) (u : Value) :
    (w.setCell ⟨p, off, none⟩ u).ownsRow B e size v n xs := by
  refine ⟨h.1, ?_⟩
  rcases h.2 with h0 | ⟨g, cap, cur, h1, h2, hh, rest⟩
  · exact .inl h0
  · refine .inr ⟨g, cap, cur, h1, h2, ?_, rest⟩
    rw [Below.heap_setCell w _ u g (fun e1 => by
      have e2 : g = p := e1
      subst e2
      rw [hh] at hp
      injection hp with hp
      injection hp with _ ht
      exact hne ht)]
    exact hh
theorem own_mono {w : World} {B B' e size n : Nat} {v : Value} {xs : List Value} (h : w.ownsRow B e size v n xs) (hB : B' ≤ B) : w.ownsRow B' e size v n xs := by
  refine ⟨h.1, ?_⟩
  rcases h.2 with h0 | ⟨g, cap, cur, h1, h2, rest⟩
  · exact .inl h0
  · exact .inr ⟨g, cap, cur, h1, Nat.le_trans hB h2, rest⟩

/-- Values that are slices of new memory and read as xss, row by row. -/
structure OwnVs (w : World) (B : Nat) (vs : List Value) (xss : List (List UInt8)) : Prop where
  len : vs.length = xss.length
  at_ : ∀ j, j < xss.length → ∃ A n c, vs[j]? = some (.slice A n c) ∧ w.ownsRow B 5 1 (.slice A n c) n (bv (xss[j]?.getD []))
theorem OwnVs.keep {w w' : World} {B : Nat} {vs : List Value} {xss : List (List UInt8)} (h : OwnVs w B vs xss)
    (hk : ∀ (v : Value) (n : Nat) (xs : List Value), w.ownsRow B 5 1 v n xs → w'.ownsRow B 5 1 v n xs) : OwnVs w' B vs xss :=
  ⟨h.len, fun j hj => by
    obtain ⟨A, n, c, h1, h2⟩ := h.at_ j hj
    exact ⟨A, n, c, h1, hk _ _ _ h2⟩⟩
theorem OwnVs.nil_ (w : World) (B : Nat) : OwnVs w B [] [] := ⟨rfl, fun j hj => absurd hj (by simp)⟩
theorem OwnVs.snoc {w : World} {B : Nat} {vs : List Value} {xss : List (List UInt8)} {A : Option Addr} {n c : Nat} {xs : List UInt8} (h : OwnVs w B vs xss)
    (h' : w.ownsRow B 5 1 (.slice A n c) n (bv xs)) : OwnVs w B (vs ++ [.slice A n c]) (xss ++ [xs]) :=
  ⟨by simp [h.len], fun j hj => by
    have hl := h.len
    rcases Nat.lt_or_ge j xss.length with h1 | h1
    · obtain ⟨A', n', c', h2, h3⟩ := h.at_ j h1
      exact ⟨A', n', c', by rw [List.getElem?_append_left (by omega)]; exact h2, by rw [List.getElem?_append_left h1]; exact h3⟩
    · obtain rfl : j = xss.length := by simp at hj; omega
      exact ⟨A, n, c, by rw [← hl]; simp, by simpa using h'⟩⟩
theorem RdBs.of_own {w : World} {B e n : Nat} {A : Option Addr} {c : Nat} {B' : Nat} {vs : List Value} {xss : List (List UInt8)} (h : w.ownsRow B e 1 (.slice A n c) n vs) (hv : OwnVs w B' vs xss) : RdBs w A n c xss := by
  have hl : vs.length = n := by have := h.1; simpa using this
  have hl' := hv.len
  rcases h.2 with ⟨h1, hn⟩ | ⟨g, cap, cur, h1, _, hh, hnc, hcm, _, htake⟩
  · injection h1 with h1 h2 h3
    subst h1 h2 h3
    have : xss = [] := List.eq_nil_of_length_eq_zero (by omega)
    subst this
    exact RdBs.nil_ w
  · injection h1 with h1 h2 h3
    subst h1 h3
    refine ⟨by omega, hnc, hcm, (fun h => by cases h), fun hn => ⟨g, 0, rfl, (Array.getElem?_eq_some_iff.1 hh).1, fun j hj => ?_⟩⟩
    obtain ⟨A', n', c', h2, h3⟩ := hv.at_ j (by omega)
    have := h.cellAt j (by omega)
    exact ⟨A', n', c', by rw [Nat.zero_add, this]; exact h2, Rd.own h3⟩

/-- What a cut answers: the parts, and the code. -/
def cutF (ps : List (List UInt8)) (b : List UInt8) : List Int → List (List UInt8) × Int
  | [] => if 0 < b.length then ([], 5) else (ps, 0)
  | n :: ns => if n < 0 then ([], 1) else if (b.length : Int) < n then ([], 2) else cutF (ps ++ [b.take n.toNat]) (b.drop n.toNat) ns
def cutL (b : List UInt8) (ns : List Int) : List (List UInt8) × Int := cutF [] b ns

theorem cut_drop (ss : List Int) (k : Nat) (hk : k < ss.length) : ss.drop k = (ss[k]?.getD 0) :: ss.drop (k + 1) := by
  rw [List.drop_eq_getElem_cons hk, List.getElem?_eq_getElem hk]; rfl

def CutEnd (w : World) (r : List (List UInt8) × Int) (e : Ending) (w' : World) : Prop :=
  ∃ (A : Option Addr) (n c : Nat) (vs : List Value), e = .returned (.tuple #[.slice A n c, .int .i64 r.2]) ∧ w'.ownsRow (w.heap.size + 1) 23 1 (.slice A n c) n vs ∧ OwnVs w' w.heap.size vs r.1 ∧ Below w.heap.size w w'

/-- What holds at the head of Cut's loop. -/
structure CutAt (w : World) (xs : List UInt8) (ss : List Int) (k : Nat) (v vout : Value) (wr : World) : Prop where
  ex : ∃ (A : Option Addr) (m c d : Nat) (vs : List Value) (ps : List (List UInt8)), v = .slice A m c ∧ Rd w A m c (xs.drop d) ∧ cutF ps (xs.drop d) (ss.drop k) = cutL xs ss ∧ OwnVs wr w.heap.size vs ps ∧
    wr.ownsRow (w.heap.size + 1) 23 1 vout k vs
  hq : Bk wr w.heap.size 29 #[.int .i64 0]
  bel : Below w.heap.size w wr

theorem cut_eq (xs : List UInt8) (ss : List Int) (k d : Nat) (ps : List (List UInt8)) (q : Int) (hk : k < ss.length) (e : cutF ps (xs.drop d) (ss.drop k) = cutL xs ss) (hq : ss[k]?.getD 0 = q) :
    cutL xs ss = if q < 0 then ([], 1) else if ((xs.drop d).length : Int) < q then ([], 2) else cutF (ps ++ [(xs.drop d).take q.toNat]) ((xs.drop d).drop q.toNat) (ss.drop (k + 1)) := by
  rw [← e, cut_drop ss k hk, hq]; rfl

theorem cut_start (w : World) (A : Option Addr) (m c : Nat) (xs : List UInt8) (ss : List Int) (h : Rd w A m c xs) :
    CutAt w xs ss 0 (.slice A m c) (.slice none 0 0) (w.alloc (.cells #[.int .i64 0] 29)) :=
  ⟨⟨A, m, c, 0, [], [], rfl, by simpa using h, rfl, OwnVs.nil_ _ _, World.ownsRow_nil _ _ _ _⟩, Bk.new _ _ _, (Below.refl _ _).alloc (Nat.le_refl _) _⟩

theorem cut_door (w wr : World) (code : Int) (r : List (List UInt8) × Int) (tmps : Array Value) (hq : Bk wr w.heap.size 29 #[.int .i64 0]) (hb : Below w.heap.size w wr) (hr : r = ([], code))
    (h4 : tmps.getD 4 undef = .slice none 0 0) (h5 : tmps.getD 5 undef = .pointer (some ⟨w.heap.size, 0, none⟩)) :
    bodyPostD Tryz.prog Tryz.f104 (CutEnd w r) (Exit.panic [LV.wrg code])
      { tmps := tmps, defers := [{ target := Target.fn (Fn.func 122) #[.pointer (some ⟨w.heap.size, 0, none⟩)], args := #[] }] } wr := by
  refine leaves_cons (f := 122) (args := #[.pointer (some ⟨w.heap.size, 0, none⟩)]) (by simp) (by simp [go_sem]) ?_
  refine (cut_caught w.heap.size 0 code [] wr hq).mono ?_
  rintro e u' w'' ⟨rfl, rfl, w1, hb1, rfl⟩
  subst hr
  have c1 := cell_of_one ((hq.below hb1 hq.lt).put 0 (.int .i64 code))
  have h4' : tmps[4]?.getD undef = .slice none 0 0 := by simpa using h4
  have h5' : tmps[5]?.getD undef = .pointer (some ⟨w.heap.size, 0, none⟩) := by simpa using h5
  simp [Leaves, settle, results, Tryz.results104, go_sem, h4', h5', c1]
  exact ⟨none, 0, 0, [], rfl, World.ownsRow_nil _ _ _ _, OwnVs.nil_ _ _, (hb.trans (hb1.mono hb.size)).setCell (Nat.le_refl _) _⟩

theorem cut_next {w wr w1 w3 : World} {xs : List UInt8} {ss : List Int} {k m c d t n1 c1 B1 : Nat} {A A1 : Option Addr} {vs : List Value} {ps : List (List UInt8)} {vout v' : Value} {T : TypeId}
    (hrd : Rd w A m c (xs.drop d)) (heq : cutL xs ss = cutF (ps ++ [(xs.drop d).take t]) ((xs.drop d).drop t) (ss.drop (k + 1))) (hvs : OwnVs wr w.heap.size vs ps)
    (hown : wr.ownsRow (w.heap.size + 1) 23 1 vout k vs) (hq : Bk wr w.heap.size 29 #[.int .i64 0]) (hbel : Below w.heap.size w wr)
    (hbw1 : Below wr.heap.size wr w1) (hB1 : w.heap.size ≤ B1) (ho1 : w1.ownsRow B1 5 1 (.slice A1 n1 c1) n1 (bv ((xs.drop d).take t)))
    (hown3 : w3.ownsRow (w.heap.size + 1) 23 1 v' (k + 1) (vs ++ [.slice A1 n1 c1])) (hg : (w1.alloc (.cells #[.slice A1 n1 c1] T)).grownBy w3 vout.ownBlock) (htm : t ≤ m) :
    CutAt w xs ss (k + 1) (.slice (if c = t then A else A.map (·.add t)) (m - t) (c - t)) v' w3 := by
  have hvo : ∀ g, vout.ownBlock = some g → w.heap.size + 1 ≤ g := fun g hg => (hown.lt g hg).1
  have hownA := (own_below hown hbw1).alloc (.cells #[.slice A1 n1 c1] T)
  have hq3 := block_grown (block_alloc (block_below hq hbw1) (.cells #[.slice A1 n1 c1] T)) hg (fun e => by have h5 : w.heap.size + 1 ≤ w.heap.size := hvo _ e; omega)
  have hb3 : Below w.heap.size w w3 := by
    have s1 := hbel.size
    have s2 := hbw1.size
    exact ((hbel.trans (hbw1.mono s1)).alloc (by omega) _).grown hg (by simp; omega) (fun g h => by have := hvo g h; omega)
  have keep : ∀ (v : Value) (n : Nat) (xs : List Value), (w1.alloc (.cells #[.slice A1 n1 c1] T)).ownsRow w.heap.size 5 1 v n xs → w3.ownsRow w.heap.size 5 1 v n xs := by
    intro v n xs h
    exact h.kept hg (own_apart h hownA (by decide))
  refine ⟨⟨_, m - t, c - t, d + t, _, _, rfl, ?_, ?_, ((hvs.keep fun v n xs h => (own_below h hbw1).alloc _).snoc ((own_mono ho1 hB1).alloc _)).keep keep, hown3⟩, hq3, hb3⟩
  · have := hrd.cut htm
    rwa [List.drop_drop] at this
  · rw [heq, List.drop_drop]

theorem cut_done (w wr : World) (A : Option Addr) (n c : Nat) (vs : List Value) (ps : List (List UInt8)) (r : List (List UInt8) × Int) (tmps : Array Value)
    (hq : Bk wr w.heap.size 29 #[.int .i64 0]) (hb : Below w.heap.size w wr) (hown : wr.ownsRow (w.heap.size + 1) 23 1 (.slice A n c) n vs) (hvs : OwnVs wr w.heap.size vs ps) (hr : r = (ps, 0))
    (h4 : tmps.getD 4 undef = .slice A n c) (h5 : tmps.getD 5 undef = .pointer (some ⟨w.heap.size, 0, none⟩)) :
    bodyPostD Tryz.prog Tryz.f104 (CutEnd w r) Exit.ret
      { tmps := tmps, defers := [{ target := Target.fn (Fn.func 122) #[.pointer (some ⟨w.heap.size, 0, none⟩)], args := #[] }] } (wr.setCell ⟨w.heap.size, 0, none⟩ (.int .i64 0)) := by
  have hq1 : Bk (wr.setCell ⟨w.heap.size, 0, none⟩ (.int .i64 0)) w.heap.size 29 #[.int .i64 0] := hq.put 0 (.int .i64 0)
  have hq2 : Bk ((wr.setCell ⟨w.heap.size, 0, none⟩ (.int .i64 0)).setCell ⟨w.heap.size, 0, none⟩ (.int .i64 0)) w.heap.size 29 #[.int .i64 0] := hq1.put 0 (.int .i64 0)
  have c2 := cell_of_one hq2
  have h4' : tmps[4]?.getD undef = .slice A n c := by simpa using h4
  have h5' : tmps[5]?.getD undef = .pointer (some ⟨w.heap.size, 0, none⟩) := by simpa using h5
  have ho2 := own_set (own_set hown hq (by decide) 0 (.int .i64 0)) hq1 (by decide) 0 (.int .i64 0)
  have hv2 := hvs.keep fun v m xs h => own_set (own_set h hq (by decide) 0 (.int .i64 0)) hq1 (by decide) 0 (.int .i64 0)
  refine leaves_cons (f := 122) (args := #[.pointer (some ⟨w.heap.size, 0, none⟩)]) (by simp) (by simp [go_sem]) ?_
  refine (cut_idle w.heap.size 0 _ hq1).mono ?_
  rintro e u' w'' ⟨rfl, rfl, rfl⟩
  subst hr
  simp [Leaves, settle, results, Tryz.results104, go_sem, h4', h5', c2]
  exact ⟨A, n, c, vs, rfl, ho2, hv2, (hb.setCell (Nat.le_refl _) _).setCell (Nat.le_refl _) _⟩

theorem first_bad (A : Option Addr) (m c : Nat) (q : Int) (w : World) (hq : q < 0 ∨ (m : Int) < q) (hm : q ≤ (maxLen : Nat)) :
    Calls Tryz.prog 123 #[.slice A m c, .int .i64 q] w fun e w' => e = .panicked [LV.wrg (if q < 0 then 1 else 2)] ∧ w = w' := by
  by_cases hneg : q < 0
  · rw [if_pos hneg]; exact first_neg A m c q w hneg
  · rw [if_neg hneg]
    obtain ⟨k, rfl⟩ := Int.eq_ofNat_of_zero_le (show 0 ≤ q by omega)
    exact first_short A m c k w (by omega) (by omega)

set_option maxHeartbeats 1000000 in
theorem cut_any (A A2 : Option Addr) (m c n c2 : Nat) (xs : List UInt8) (ss : List Int) (w : World) (h : Rd w A m c xs) (h2 : RdI w A2 n c2 ss) (hm : m ≤ 140737488355328) (hn : n ≤ 1000000000) :
    Calls Tryz.prog 104 #[.slice A m c, .slice A2 n c2] w (CutEnd w (cutL xs ss)) := by
  have hmf : ∀ (fn : Fn) (first cap : Array Value) (w : World), (Instr.makeFunc fn first cap).run Tryz.prog w = .ok (.func fn first cap) w := fun _ _ _ _ => rfl
  have HY := Lib.hid (fun X => LV.need_yes 5 X)
  have HN := Lib.hid (fun X => LV.need_no 5 X)
  obtain ⟨i0, hi, hz0, hz1, hz2⟩ := info_parts infoBytesC
  go_enter_defers Tryz.func104, Tryz.ntmps104
  go_wp2
  go_loopw [0, 6, 8, 12] (fun v vo _ i wr => ∃ k : Nat, k ≤ n ∧ i = .int .i64 (k : Int) ∧ CutAt w xs ss k v vo wr) (fun _ _ _ i _ => n - (intOf i).toNat)
  case atStart => exact ⟨0, Nat.zero_le _, rfl, cut_start w A m c xs ss h⟩
  case round =>
    obtain ⟨k, hk, rfl, hat⟩ := hrel
    obtain ⟨⟨A, m, c, d, vs, ps, rfl, hrw, heq, hvs, hown⟩, hq, hbel⟩ := hat
    have hrd := hrw.below hbel
    have cq := cell_of_one hq
    have fq := free_of_one hq
    by_cases hlt : k < n
    · obtain ⟨b, off, rfl, hb, hcell⟩ := (h2.below hbel).at_ (by omega)
      obtain ⟨q, hqq⟩ : ∃ q, ss[k]?.getD 0 = q := ⟨_, rfl⟩
      have hc := hcell k hlt
      rw [hqq] at hc
      have hqm : q ≤ (maxLen : Nat) := by rw [← hqq, List.getElem?_eq_getElem (by have := h2.len; omega)]; exact h2.rng _ (List.getElem_mem _)
      have HE := Lib.hid (cut_eq xs ss k d ps q (by have := h2.len; omega) heq hqq)
      clear hcell hqq heq
      by_cases hbad : q < 0 ∨ (m : Int) < q
      · have HR : Hid (cutL xs ss = ([], if q < 0 then 1 else 2)) := by
          show cutL xs ss = _
          rw [HE.out, hrd.len]
          split
          · rfl
          · rw [if_pos (by omega)]
        have HB := Lib.hid (fun W => first_bad A m c q W hbad hqm)
        obtain ⟨C, hC⟩ : ∃ C : Int, C = if q < 0 then 1 else 2 := ⟨_, rfl⟩
        rw [← hC] at HB HR
        clear hC
        clear hbad
        go_wp2_with (go_at_call 123; ((with_reducible refine (HB.out _).mono ?_); rintro e w' ⟨rfl, rfl⟩))
        exact cut_door w wr _ (cutL xs ss) _ hq hbel HR.out rfl rfl
      · obtain ⟨t, rfl⟩ := Int.eq_ofNat_of_zero_le (show 0 ≤ q by omega)
        have htm : t ≤ m := by omega
        have hti : (t : Int) ≤ (m : Int) := by omega
        have ht0 : (0 : Int) ≤ (t : Int) := by omega
        clear hbad
        have HC : Hid (cutL xs ss = cutF (ps ++ [(xs.drop d).take t]) ((xs.drop d).drop t) (ss.drop (k + 1))) := by
          show cutL xs ss = _
          rw [HE.out, if_neg (by omega), hrd.len, if_neg (by omega)]
          simp
        have hmt : m ≤ 140737488355328 := by have e1 := hrd.len; have e2 := h.len; simp at e1; omega
        have hcap := hrd.cap
        have hws := hbel.size
        have HF := Lib.hid (first_ok A m c t (xs.drop d) wr hrd htm (by omega))
        have HW := Lib.hid hown
        go_wp2_with (first
          | (go_at_call 123; ((with_reducible refine HF.out.mono ?_); rintro e w1 ⟨A1, n1, c1, rfl, ho1, hb1⟩; have HO1 := Lib.hid ho1; have HB1 := Lib.hid hb1; have hws1 := hb1.size; clear ho1 hb1))
          | (at_builtin; refine wpList_append_own _ (by rfl) _ _ 60 (by rfl) (w.heap.size + 1) 23 i0 (.slice none 0 0) 1 24 Tryz.underlying60 hi hz0 hz1 hz2 rfl (by decide) _ _ _ (by rfl) ((own_below HW.out HB1.out).alloc _) ⟨w1.heap.size, 0, none⟩ 1 1 [.slice A1 n1 c1] (by rfl) (by rfl) (World.news_of_block (heap_alloc_new w1 _)) (by simp [Value.oneCell']) (by simp only [maxLen]; omega) (by omega) (by simp; omega) ?_; intro v' w3 hown3 hgrow _; have HO3 := Lib.hid hown3; have HG3 := Lib.hid hgrow; clear hown3 hgrow))
        go_roundw
        case rel => exact ⟨k + 1, by omega, by go_num, cut_next hrw HC.out hvs HW.out hq hbel HB1.out hbel.size HO1.out HO3.out HG3.out htm⟩
        case measure => simp [intOf]; omega
    · obtain rfl : k = n := by omega
      have hd : ss.drop k = [] := List.drop_eq_nil_of_le (by have := h2.len; omega)
      rw [hd] at heq
      have hlen := hrw.len
      by_cases hm0 : 0 < m
      · have HR : Hid (cutL xs ss = ([], 5)) := by
          show cutL xs ss = _
          rw [← heq]; simp only [cutF]; rw [if_pos (by omega)]
        have q1 : ((m : Int) == 0) = false := by simp; omega
        clear heq hd
        go_wp2_with (go_at_call 30; ((with_reducible refine (HN.out _).mono ?_); rintro e w' ⟨rfl, rfl⟩))
        exact cut_door w wr 5 (cutL xs ss) _ hq hbel HR.out rfl rfl
      · have HR : Hid (cutL xs ss = (ps, 0)) := by
          show cutL xs ss = _
          rw [← heq]; simp only [cutF]; rw [if_neg (by omega)]
        obtain rfl : m = 0 := by omega
        clear heq hd
        obtain ⟨Ao, co, rfl⟩ := own_form hown
        go_wp2_with (go_at_call 30; ((with_reducible refine (HY.out _).mono ?_); rintro e w' ⟨rfl, rfl⟩))
        exact cut_done w wr Ao k co vs ps (cutL xs ss) _ hq hbel hown hvs HR.out rfl rfl
end Go.Proofs.YtnoflgkjdibblaaGreatDoor.CT

/-
  The landed counter's parts, out of bytes. No statement is proved here.
-/
namespace Go.Proofs.YtnoflgkjdibblaaGreatDoor.S21
set_option linter.unusedSimpArgs false
set_option linter.unusedVariables false
set_option maxRecDepth 8192
open Go.RowKit S19 S20

theorem cutF_step (ps : List (List UInt8)) (b : List UInt8) (k : Nat) (ns : List Int) (h : k ≤ b.length) : CT.cutF ps b ((k : Int) :: ns) = CT.cutF (ps ++ [b.take k]) (b.drop k) ns := by
  rw [CT.cutF, if_neg (by omega), if_neg (by omega), Int.toNat_natCast]
theorem cut_parts (b : List UInt8) (n m : Nat) (hl : b.length = n) (h25 : 25 ≤ n) (hm : m = n - 25) : CT.cutL b [8, 8, 8, 1, (m : Int)] = ([b.take 8, (b.drop 8).take 8, (b.drop 16).take 8, (b.drop 24).take 1, b.drop 25], 0) := by
  show CT.cutF [] b [((8 : Nat) : Int), ((8 : Nat) : Int), ((8 : Nat) : Int), ((1 : Nat) : Int), (m : Int)] = _
  have e : (b.drop 25).take m = b.drop 25 := List.take_of_length_le (by simp; omega)
  have z : ((b.drop 25).drop m).length = 0 := by simp; omega
  rw [cutF_step, cutF_step, cutF_step, cutF_step, cutF_step, CT.cutF]
  · simp only [List.drop_drop, List.nil_append, List.cons_append, Nat.reduceAdd] at z ⊢
    rw [z, if_neg (by omega), e]
  all_goals (first | omega | (simp only [List.length_drop, List.drop_drop]; omega))
theorem rdI5 (w : World) (g : Nat) (hg : w.heap.size = g) (T : TypeId) (m : Nat) (hm : m ≤ 100000) : CT.RdI (w.alloc (.cells #[.int .i64 8, .int .i64 8, .int .i64 8, .int .i64 1, .int .i64 (m : Int)] T)) (some ⟨g, 0, none⟩) 5 5 [8, 8, 8, 1, (m : Int)] := by
  subst hg
  refine ⟨rfl, Nat.le_refl _, by simp [maxLen], ?_, fun _ => ⟨w.heap.size, 0, rfl, by simp, fun j hj => ?_⟩⟩
  · intro x hx
    simp only [List.mem_cons, List.not_mem_nil, or_false] at hx
    unfold maxLen
    omega
  · rw [Nat.zero_add, (Bk.new w T _).cell j]
    match j, hj with
    | 0, _ => rfl
    | 1, _ => rfl
    | 2, _ => rfl
    | 3, _ => rfl
    | 4, _ => rfl
theorem own_blk' {w : World} {B e n : Nat} {A : Option Addr} {c : Nat} {xs : List Value} (h : w.ownsRow B e 1 (.slice A n c) n xs) (hn : 0 < n) : ∃ g, A = some ⟨g, 0, none⟩ ∧ B ≤ g ∧ g < w.heap.size := by
  have hl := h.lt
  rcases h.2 with ⟨h1, hn'⟩ | ⟨g, cap, cur, h1, hB, hh, _⟩
  · omega
  · injection h1 with h1 h2 h3
    exact ⟨g, h1, hB, (Array.getElem?_eq_some_iff.1 hh).1⟩
/-- The five parts in memory. -/
structure Pts (N : Nat) (b : List UInt8) (m g : Nat) (A0 : Option Addr) (c0 : Nat) (A1 : Option Addr) (c1 : Nat) (A2 : Option Addr) (c2 : Nat) (b3 c3 : Nat) (A4 : Option Addr) (c4 : Nat) (X : World) : Prop where
  k0 : X.cell? ⟨g, 0, none⟩ = some (.slice A0 8 c0)
  k1 : X.cell? ⟨g, 1, none⟩ = some (.slice A1 8 c1)
  k2 : X.cell? ⟨g, 2, none⟩ = some (.slice A2 8 c2)
  k3 : X.cell? ⟨g, 3, none⟩ = some (.slice (some ⟨b3, 0, none⟩) 1 c3)
  k4 : X.cell? ⟨g, 4, none⟩ = some (.slice A4 m c4)
  k5 : X.cell? ⟨b3, 0, none⟩ = some (.int .u8 ((b.getD 24 0).toNat : Int))
  lg : g < X.heap.size
  lb : b3 < X.heap.size
  ng : N ≤ g
  nb : N ≤ b3
  r0 : Rd X A0 8 c0 (b.take 8)
  r1 : Rd X A1 8 c1 ((b.drop 8).take 8)
  r2 : Rd X A2 8 c2 ((b.drop 16).take 8)
  r4 : Rd X A4 m c4 (b.drop 25)
  far : ∀ a, 0 < m → A4 = some a → N ≤ a.block
theorem Pts.below {N : Nat} {b : List UInt8} {m g c0 c1 c2 b3 c3 c4 : Nat} {A0 A1 A2 A4 : Option Addr} {X Y : World} (t : Pts N b m g A0 c0 A1 c1 A2 c2 b3 c3 A4 c4 X) (hb : Below X.heap.size X Y) : Pts N b m g A0 c0 A1 c1 A2 c2 b3 c3 A4 c4 Y :=
  ⟨(hb.cell (p := ⟨g, 0, none⟩) t.lg).trans t.k0, (hb.cell (p := ⟨g, 1, none⟩) t.lg).trans t.k1, (hb.cell (p := ⟨g, 2, none⟩) t.lg).trans t.k2, (hb.cell (p := ⟨g, 3, none⟩) t.lg).trans t.k3, (hb.cell (p := ⟨g, 4, none⟩) t.lg).trans t.k4, (hb.cell (p := ⟨b3, 0, none⟩) t.lb).trans t.k5, Nat.lt_of_lt_of_le t.lg hb.size, Nat.lt_of_lt_of_le t.lb hb.size, t.ng, t.nb, t.r0.below hb, t.r1.below hb, t.r2.below hb, t.r4.below hb, t.far⟩
theorem getD_one (b : List UInt8) (h : 24 < b.length) : ((b.drop 24).take 1)[0]? = some (b.getD 24 0) := by
  rw [List.getElem?_take, if_pos (by omega), List.getElem?_drop, List.getD_eq_getElem?_getD, List.getElem?_eq_getElem (by omega)]
  rfl
theorem cut_pts {w w' : World} {e : Ending} {b : List UInt8} {n m : Nat} (hl : b.length = n) (h25 : 25 ≤ n) (hm : m = n - 25) (h : CT.CutEnd w ([b.take 8, (b.drop 8).take 8, (b.drop 16).take 8, (b.drop 24).take 1, b.drop 25], 0) e w') :
    ∃ g cg A0 c0 A1 c1 A2 c2 b3 c3 A4 c4, e = .returned (.tuple #[.slice (some ⟨g, 0, none⟩) 5 cg, .int .i64 0]) ∧ Pts w.heap.size b m g A0 c0 A1 c1 A2 c2 b3 c3 A4 c4 w' ∧ Below w.heap.size w w' := by
  obtain ⟨A, l, c, vs, rfl, ho, hv, hb⟩ := h
  have hvl : vs.length = 5 := hv.len
  obtain rfl : l = 5 := by have := ho.1; simp at this; omega
  obtain ⟨g, rfl, hg1, hg2⟩ := own_blk' ho (by omega)
  obtain ⟨A0, n0, c0, e0, o0⟩ := hv.at_ 0 (by simp)
  obtain ⟨A1, n1, c1, e1, o1⟩ := hv.at_ 1 (by simp)
  obtain ⟨A2, n2, c2, e2, o2⟩ := hv.at_ 2 (by simp)
  obtain ⟨A3, n3, c3, e3, o3⟩ := hv.at_ 3 (by simp)
  obtain ⟨A4, n4, c4, e4, o4⟩ := hv.at_ 4 (by simp)
  have f0 := ho.cellAt 0 (by omega)
  have f1 := ho.cellAt 1 (by omega)
  have f2 := ho.cellAt 2 (by omega)
  have f3 := ho.cellAt 3 (by omega)
  have f4 := ho.cellAt 4 (by omega)
  rw [e0] at f0
  rw [e1] at f1
  rw [e2] at f2
  rw [e3] at f3
  rw [e4] at f4
  simp only [List.getElem?_cons_zero, List.getElem?_cons_succ, Option.getD_some] at o0 o1 o2 o3 o4
  obtain rfl : 8 = n0 := by rw [← own_len o0]; simp; omega
  obtain rfl : 8 = n1 := by rw [← own_len o1]; simp; omega
  obtain rfl : 8 = n2 := by rw [← own_len o2]; simp; omega
  obtain rfl : 1 = n3 := by rw [← own_len o3]; simp; omega
  obtain rfl : m = n4 := by rw [← own_len o4]; simp; omega
  obtain ⟨b3, rfl, hb1, hb2⟩ := own_blk' o3 (by omega)
  have f5 := o3.cellAt 0 (by omega)
  rw [show (bv ((b.drop 24).take 1))[0]? = some (.int .u8 ((b.getD 24 0).toNat : Int)) by rw [bv, List.getElem?_map, getD_one b (by omega)]; rfl] at f5
  refine ⟨g, c, A0, c0, A1, c1, A2, c2, b3, c3, A4, c4, rfl, ⟨f0, f1, f2, f3, f4, f5, hg2, hb2, by omega, hb1, Rd.own o0, Rd.own o1, Rd.own o2, Rd.own o4, fun a h0 ha => ?_⟩, hb⟩
  obtain ⟨b4, hb4, hb5, _⟩ := own_blk' o4 h0
  rw [hb4] at ha
  injection ha with ha
  rw [← ha]
  exact hb5
theorem byte_one (u : UInt8) : ((u.toNat : Int) == 1) = decide (u = 1) := by
  by_cases h : u = 1
  · subst h; rfl
  · rw [decide_eq_false h]
    have : u.toNat ≠ 1 := fun e => h (UInt8.toNat_inj.1 e)
    rw [beq_eq_false_iff_ne]
    omega
theorem drew_heap (w : World) : w.drew.heap = w.heap := rfl
theorem Tryz.infoNc : (Tryz.prog.info? 90).map (·.size) = some 6 := by kernel_rfl
set_option maxHeartbeats 8000000 in
theorem lparts_any (A : Option Addr) (n c : Nat) (b : List UInt8) (w : World) (hr : Rd w A n c b) (h25 : 25 ≤ n) (hn : n ≤ 100000) : Calls Tryz.prog 76 #[.slice A n c] w fun e w' => ∃ A' c', e = .returned (.agg (ncA (Cn.ofB b) A' (n - 25) c')) ∧ Rd w' A' (n - 25) c' (b.drop 25) ∧ (∀ a, 0 < n - 25 → A' = some a → w.heap.size ≤ a.block) ∧ Below w.heap.size w w' := by
  have hl := hr.len
  obtain ⟨m, hm⟩ : ∃ m, m = n - 25 := ⟨_, rfl⟩
  obtain ⟨v0, hv0⟩ : ∃ v, v = getL (b.take 8) := ⟨_, rfl⟩
  obtain ⟨v1, hv1⟩ : ∃ v, v = getL ((b.drop 8).take 8) := ⟨_, rfl⟩
  obtain ⟨v2, hv2⟩ : ∃ v, v = getL ((b.drop 16).take 8) := ⟨_, rfl⟩
  obtain ⟨u, hu⟩ : ∃ v, v = ((b.getD 24 0).toNat : Int) := ⟨_, rfl⟩
  obtain ⟨fl, hfl⟩ : ∃ v, v = decide (b.getD 24 0 = 1) := ⟨_, rfl⟩
  have hu1 : (u == 1) = fl := by rw [hu, hfl]; exact byte_one _
  have EQ := Lib.hid (show Cn.ofB b = ⟨v0, v1, v2, v2, fl⟩ by rw [hv0, hv1, hv2, hfl]; rfl)
  rw [EQ.out, ← hm]
  have HR := Lib.hid hr
  have CUT := Lib.hid (show ∀ X g1 T, X.heap.size = g1 → Below w.heap.size w X → Calls Tryz.prog 104 #[.slice A n c, .slice (some ⟨g1, 0, none⟩) 5 5] (X.alloc (.cells #[.int .i64 8, .int .i64 8, .int .i64 8, .int .i64 1, .int .i64 (m : Int)] T)) fun e w' => ∃ g cg A0 c0 A1 c1 A2 c2 b3 c3 A4 c4, e = .returned (.tuple #[.slice (some ⟨g, 0, none⟩) 5 cg, .int .i64 0]) ∧ Pts (X.heap.size + 1) b m g A0 c0 A1 c1 A2 c2 b3 c3 A4 c4 w' ∧ Below X.heap.size X w' from fun X g1 T hg hX => by
    have hB : Below X.heap.size X (X.alloc (.cells #[.int .i64 8, .int .i64 8, .int .i64 8, .int .i64 1, .int .i64 (m : Int)] T)) := (Below.refl _ _).alloc (Nat.le_refl _) _
    have q := CT.cut_any A (some ⟨g1, 0, none⟩) n c 5 5 b [8, 8, 8, 1, (m : Int)] _ ((hr.below hX).below hB) (rdI5 X g1 hg T m (by omega)) (by omega) (by omega)
    rw [cut_parts b n m hl h25 hm] at q
    refine q.mono fun e w' h => ?_
    obtain ⟨g, cg, A0, c0, A1, c1, A2, c2, b3, c3, A4, c4, h1, h2, h3⟩ := cut_pts hl h25 hm h
    rw [World.size_alloc] at h2
    exact ⟨g, cg, A0, c0, A1, c1, A2, c2, b3, c3, A4, c4, h1, h2, hB.trans (h3.mono hB.size)⟩)
  have d1 : (n : Int) - 25 = (m : Int) := by omega
  have d2 : wrap64 ((n : Int) - 25) = (m : Int) := by rw [d1]; exact (wrap_nat m (by omega)).1
  have d3 : wrap64 (m : Int) = (m : Int) := (wrap_nat m (by omega)).1
  have TL := Lib.hid (show ∀ X A c xs v, Rd X A 8 c xs → v = getL xs → Calls Tryz.prog 105 #[.slice A 8 c] X fun e w' => e = .returned (.int .u64 (v : Int)) ∧ X = w' from fun X A c xs v h hv => by rw [hv]; exact ltold_any A 8 c xs X (by omega) h)
  have HV := Lib.hid (show v0 = getL (b.take 8) ∧ v1 = getL ((b.drop 8).take 8) ∧ v2 = getL ((b.drop 16).take 8) ∧ u = ((b.getD 24 0).toNat : Int) from ⟨hv0, hv1, hv2, hu⟩)
  obtain ⟨g0, hg0⟩ : ∃ g, w.heap.size = g := ⟨_, rfl⟩
  obtain ⟨w0, hw0⟩ : ∃ w0, w.alloc (.cells #[.int .u64 0, .int .u64 0, .int .u64 0, .int .u64 0, .bool false, .slice none 0 0] 90) = w0 := ⟨_, rfl⟩
  have K0 := Lib.hid (show Bk w0 g0 90 #[.int .u64 0, .int .u64 0, .int .u64 0, .int .u64 0, .bool false, .slice none 0 0] by rw [← hw0]; exact Bk.newAt _ _ _ _ hg0)
  have B0 := Lib.hid (show Below w.heap.size w w0 by rw [← hw0]; exact (Below.refl _ _).alloc (Nat.le_refl _) _)
  have HG := Lib.hid hg0
  have HW0 := Lib.hid hw0
  have HB := Lib.hid (show 25 ≤ n ∧ n ≤ 100000 from ⟨h25, hn⟩)
  clear hr hl hm hv0 hv1 hv2 hu hfl hg0 hw0 h25 hn
  go_enter Tryz.func76, Tryz.ntmps76
  go_upto_region 1 with (fail)
  rw [HW0.out, HG.out]
  go_upto_region 2 with (go_at_call 104; ((with_reducible refine (CUT.out w0 _ _ rfl B0.out).mono ?_); rintro e w1 ⟨g, cg, A0, c0, A1, c1, A2, c2, b3, c3, A4, c4, rfl, p1, b1⟩; have P1 := Lib.hid p1; have B1 := Lib.hid (B0.out.trans (b1.mono B0.out.size)); have K1 := Lib.hid (K0.out.below b1 K0.out.lt); clear p1 b1))
  clear d1 d2 d3
  obtain ⟨pa, hpa⟩ : ∃ pa, w1.heap.size = pa := ⟨_, rfl⟩
  have PA := Lib.hid hpa
  clear hpa
  have GD1 := Lib.hid (Below.refl w1.heap.size w1).drew
  have KX := Lib.hid (show ∀ X, Below w1.heap.size w1 X → X.cell? ⟨g, 0, none⟩ = some (.slice A0 8 c0) ∧ X.cell? ⟨g, 1, none⟩ = some (.slice A1 8 c1) ∧ X.cell? ⟨g, 2, none⟩ = some (.slice A2 8 c2) ∧ X.cell? ⟨g, 3, none⟩ = some (.slice (some ⟨b3, 0, none⟩) 1 c3) ∧ X.cell? ⟨b3, 0, none⟩ = some (.int .u8 u) from fun X hX => by
    have q := P1.out.below hX
    rw [HV.out.2.2.2]
    exact ⟨q.k0, q.k1, q.k2, q.k3, q.k5⟩)
  have T0 := (show ∀ X, Below w1.heap.size w1 X → Calls Tryz.prog 105 #[.slice A0 8 c0] X fun e w' => e = .returned (.int .u64 (v0 : Int)) ∧ X = w' from fun X hX => TL.out X A0 c0 _ v0 (P1.out.below hX).r0 HV.out.1)
  have T1 := (show ∀ X, Below w1.heap.size w1 X → Calls Tryz.prog 105 #[.slice A1 8 c1] X fun e w' => e = .returned (.int .u64 (v1 : Int)) ∧ X = w' from fun X hX => TL.out X A1 c1 _ v1 (P1.out.below hX).r1 HV.out.2.1)
  have T2 := (show ∀ X, Below w1.heap.size w1 X → Calls Tryz.prog 105 #[.slice A2 8 c2] X fun e w' => e = .returned (.int .u64 (v2 : Int)) ∧ X = w' from fun X hX => TL.out X A2 c2 _ v2 (P1.out.below hX).r2 HV.out.2.2.1)
  have GDA := Lib.hid (fun o => (show Below w1.heap.size w1 (w1.alloc o).drew from ((Below.refl _ _).alloc (Nat.le_refl _) o).drew))
  have T0a := Lib.hid (T0 _ GD1.out)
  have T0b := Lib.hid (fun o => T0 _ (GDA.out o))
  have T1a := Lib.hid (T1 _ GD1.out)
  have T1b := Lib.hid (fun o => T1 _ (GDA.out o))
  have T2a := Lib.hid (T2 _ GD1.out)
  have T2b := Lib.hid (fun o => T2 _ (GDA.out o))
  clear T0 T1 T2
  (go_region_held3 (fun X => X.cell? ⟨g, 0, none⟩ = some (.slice A0 8 c0) ∧ X.cell? ⟨g, 1, none⟩ = some (.slice A1 8 c1) ∧ X.cell? ⟨g, 2, none⟩ = some (.slice A2 8 c2) ∧ X.cell? ⟨g, 3, none⟩ = some (.slice (some ⟨b3, 0, none⟩) 1 c3) ∧ X.cell? ⟨b3, 0, none⟩ = some (.int .u8 u)) (first
    | exact KX.out _ (GDA.out _)
    | exact KX.out _ GD1.out) (first
    | (go_at_call 105; ((first | with_reducible refine T0a.out.mono ?_ | with_reducible refine (T0b.out _).mono ?_); rintro e wq ⟨rfl, rfl⟩))
    | (go_at_call 105; ((first | with_reducible refine T1a.out.mono ?_ | with_reducible refine (T1b.out _).mono ?_); rintro e wq ⟨rfl, rfl⟩))
    | (go_at_call 105; ((first | with_reducible refine T2a.out.mono ?_ | with_reducible refine (T2b.out _).mono ?_); rintro e wq ⟨rfl, rfl⟩))
    | fail))
  all_goals
    have K2 := Lib.hid (show Bk (w1.alloc (.cells #[.int .u64 (v0 : Int), .int .u64 (v1 : Int), .int .u64 (v2 : Int), .int .u64 0, .bool fl] 46)).drew pa 46 #[.int .u64 (v0 : Int), .int .u64 (v1 : Int), .int .u64 (v2 : Int), .int .u64 0, .bool fl] from (Bk.newAt w1 _ _ _ PA.out).drew)
    have B2 := Lib.hid (GDA.out (.cells #[.int .u64 (v0 : Int), .int .u64 (v1 : Int), .int .u64 (v2 : Int), .int .u64 0, .bool fl] 46))
    obtain ⟨w2, hw2⟩ : ∃ w2, (w1.alloc (.cells #[.int .u64 (v0 : Int), .int .u64 (v1 : Int), .int .u64 (v2 : Int), .int .u64 0, .bool fl] 46)).drew = w2 := ⟨_, rfl⟩
    rw [hw2] at K2 B2
    rw [hw2, PA.out]
    clear hw2
    have k2 := K2.out.cell 2
    have k3 := K2.out.cell 3
    have f3 := K2.out.frozen 3
    simp only [List.getElem?_toArray, List.getElem?_cons_zero, List.getElem?_cons_succ] at k2 k3
    go_upto_region 4 with (fail)
    have K3 := Lib.hid (K2.out.put 3 (.int .u64 (v2 : Int)))
    have B3 := Lib.hid (show Below w1.heap.size w1 (w2.setCell ⟨pa, 3, none⟩ (.int .u64 (v2 : Int))) from B2.out.setCell (Nat.le_of_eq PA.out) _)
    obtain ⟨w3, hw3⟩ : ∃ w3, w2.setCell ⟨pa, 3, none⟩ (.int .u64 (v2 : Int)) = w3 := ⟨_, rfl⟩
    rw [hw3] at K3 B3
    rw [hw3]
    clear hw3 k2 k3 f3 K2 B2
    have KR := Lib.hid (K1.out.below B3.out K1.out.lt)
    have P3 := Lib.hid (P1.out.below B3.out)
    have NPG := Lib.hid (show pa ≠ g0 ∧ g ≠ g0 from ⟨fun e => by have := K1.out.lt; have := PA.out; omega, fun e => by have := P1.out.ng; have := K0.out.lt; omega⟩)
    have SS : ∀ X : World, (∀ b, b ≠ g0 → X.heap[b]? = w3.heap[b]?) → X.cell? ⟨pa, 0, none⟩ = some (.int .u64 (v0 : Int)) ∧ X.cell? ⟨pa, 1, none⟩ = some (.int .u64 (v1 : Int)) ∧ X.cell? ⟨pa, 2, none⟩ = some (.int .u64 (v2 : Int)) ∧ X.cell? ⟨pa, 3, none⟩ = some (.int .u64 (v2 : Int)) ∧ X.cell? ⟨pa, 4, none⟩ = some (.bool fl) ∧ X.cell? ⟨g, 4, none⟩ = some (.slice A4 m c4) := fun X hX => by
      have q : Bk X pa _ _ := (hX pa NPG.out.1).trans K3.out
      exact ⟨q.cell 0, q.cell 1, q.cell 2, q.cell 3, q.cell 4, (World.cell?_of_block (a := ⟨g, 4, none⟩) (hX g NPG.out.2)).trans P3.out.k4⟩
    have SD := Lib.hid (show w3.drew.cell? ⟨pa, 0, none⟩ = some (.int .u64 (v0 : Int)) ∧ w3.drew.cell? ⟨pa, 1, none⟩ = some (.int .u64 (v1 : Int)) ∧ w3.drew.cell? ⟨pa, 2, none⟩ = some (.int .u64 (v2 : Int)) ∧ w3.drew.cell? ⟨pa, 3, none⟩ = some (.int .u64 (v2 : Int)) ∧ w3.drew.cell? ⟨pa, 4, none⟩ = some (.bool fl) ∧ w3.drew.cell? ⟨g, 4, none⟩ = some (.slice A4 m c4) from SS w3.drew fun b _ => rfl)
    have h6 : ∀ b, b ≠ g0 → ((((((w3.setCell ⟨g0, 0, none⟩ (.int .u64 (v0 : Int))).setCell ⟨g0, 1, none⟩ (.int .u64 (v1 : Int))).setCell ⟨g0, 2, none⟩ (.int .u64 (v2 : Int))).setCell ⟨g0, 3, none⟩ (.int .u64 (v2 : Int))).setCell ⟨g0, 4, none⟩ (.bool fl)).setCell ⟨g0, 5, none⟩ (.slice A4 m c4)).heap[b]? = w3.heap[b]? := fun b hb => st6_far w3 g0 ⟨v0, v1, v2, v2, fl⟩ A4 m c4 b hb
    have S6 := Lib.hid (show ((((((w3.setCell ⟨g0, 0, none⟩ (.int .u64 (v0 : Int))).setCell ⟨g0, 1, none⟩ (.int .u64 (v1 : Int))).setCell ⟨g0, 2, none⟩ (.int .u64 (v2 : Int))).setCell ⟨g0, 3, none⟩ (.int .u64 (v2 : Int))).setCell ⟨g0, 4, none⟩ (.bool fl)).setCell ⟨g0, 5, none⟩ (.slice A4 m c4)).drew.cell? ⟨pa, 0, none⟩ = some (.int .u64 (v0 : Int)) ∧ ((((((w3.setCell ⟨g0, 0, none⟩ (.int .u64 (v0 : Int))).setCell ⟨g0, 1, none⟩ (.int .u64 (v1 : Int))).setCell ⟨g0, 2, none⟩ (.int .u64 (v2 : Int))).setCell ⟨g0, 3, none⟩ (.int .u64 (v2 : Int))).setCell ⟨g0, 4, none⟩ (.bool fl)).setCell ⟨g0, 5, none⟩ (.slice A4 m c4)).drew.cell? ⟨pa, 1, none⟩ = some (.int .u64 (v1 : Int)) ∧ ((((((w3.setCell ⟨g0, 0, none⟩ (.int .u64 (v0 : Int))).setCell ⟨g0, 1, none⟩ (.int .u64 (v1 : Int))).setCell ⟨g0, 2, none⟩ (.int .u64 (v2 : Int))).setCell ⟨g0, 3, none⟩ (.int .u64 (v2 : Int))).setCell ⟨g0, 4, none⟩ (.bool fl)).setCell ⟨g0, 5, none⟩ (.slice A4 m c4)).drew.cell? ⟨pa, 2, none⟩ = some (.int .u64 (v2 : Int)) ∧ ((((((w3.setCell ⟨g0, 0, none⟩ (.int .u64 (v0 : Int))).setCell ⟨g0, 1, none⟩ (.int .u64 (v1 : Int))).setCell ⟨g0, 2, none⟩ (.int .u64 (v2 : Int))).setCell ⟨g0, 3, none⟩ (.int .u64 (v2 : Int))).setCell ⟨g0, 4, none⟩ (.bool fl)).setCell ⟨g0, 5, none⟩ (.slice A4 m c4)).drew.cell? ⟨pa, 3, none⟩ = some (.int .u64 (v2 : Int)) ∧ ((((((w3.setCell ⟨g0, 0, none⟩ (.int .u64 (v0 : Int))).setCell ⟨g0, 1, none⟩ (.int .u64 (v1 : Int))).setCell ⟨g0, 2, none⟩ (.int .u64 (v2 : Int))).setCell ⟨g0, 3, none⟩ (.int .u64 (v2 : Int))).setCell ⟨g0, 4, none⟩ (.bool fl)).setCell ⟨g0, 5, none⟩ (.slice A4 m c4)).drew.cell? ⟨pa, 4, none⟩ = some (.bool fl) ∧ ((((((w3.setCell ⟨g0, 0, none⟩ (.int .u64 (v0 : Int))).setCell ⟨g0, 1, none⟩ (.int .u64 (v1 : Int))).setCell ⟨g0, 2, none⟩ (.int .u64 (v2 : Int))).setCell ⟨g0, 3, none⟩ (.int .u64 (v2 : Int))).setCell ⟨g0, 4, none⟩ (.bool fl)).setCell ⟨g0, 5, none⟩ (.slice A4 m c4)).drew.cell? ⟨g, 4, none⟩ = some (.slice A4 m c4) from SS _ fun b hb => by rw [drew_heap]; exact h6 b hb)
    clear SS h6
    have j0 := KR.out.cell 0
    have j1 := KR.out.cell 1
    have j2 := KR.out.cell 2
    have j3 := KR.out.cell 3
    have j4 := KR.out.cell 4
    have j5 := KR.out.cell 5
    have z0 := KR.out.frozen 0
    have z1 := KR.out.frozen 1
    have z2 := KR.out.frozen 2
    have z3 := KR.out.frozen 3
    have z4 := KR.out.frozen 4
    have z5 := KR.out.frozen 5
    have i0 := KR.out.drew.cell 0
    have i1 := KR.out.drew.cell 1
    have i2 := KR.out.drew.cell 2
    have i3 := KR.out.drew.cell 3
    have i4 := KR.out.drew.cell 4
    have i5 := KR.out.drew.cell 5
    have y0 := KR.out.drew.frozen 0
    have y1 := KR.out.drew.frozen 1
    have y2 := KR.out.drew.frozen 2
    have y3 := KR.out.drew.frozen 3
    have y4 := KR.out.drew.frozen 4
    have y5 := KR.out.drew.frozen 5
    simp only [List.getElem?_toArray, List.getElem?_cons_zero, List.getElem?_cons_succ] at i0 i1 i2 i3 i4 i5 j0 j1 j2 j3 j4 j5
    (go_region_held3 (fun X => X.cell? ⟨pa, 0, none⟩ = some (.int .u64 (v0 : Int)) ∧ X.cell? ⟨pa, 1, none⟩ = some (.int .u64 (v1 : Int)) ∧ X.cell? ⟨pa, 2, none⟩ = some (.int .u64 (v2 : Int)) ∧ X.cell? ⟨pa, 3, none⟩ = some (.int .u64 (v2 : Int)) ∧ X.cell? ⟨pa, 4, none⟩ = some (.bool fl) ∧ X.cell? ⟨g, 4, none⟩ = some (.slice A4 m c4)) (first
      | with_reducible exact S6.out
      | with_reducible exact SD.out) (fail))
    go_wp2_with (fail)
    have KF := (((((((KR.out.put 0 (.int .u64 (v0 : Int))).put 1 (.int .u64 (v1 : Int))).put 2 (.int .u64 (v2 : Int))).put 3 (.int .u64 (v2 : Int))).put 4 (.bool fl)).put 5 (.slice A4 m c4)).drew)
    have M6 := (st6_mv (N := g0) (Nat.le_refl _) w3 ⟨v0, v1, v2, v2, fl⟩ A4 m c4)
    refine bodyPost_ret (results_cell_row rfl _ _ g0 90 #[.int .u64 (v0 : Int), .int .u64 (v1 : Int), .int .u64 (v2 : Int), .int .u64 (v2 : Int), .bool fl, .slice A4 m c4] (0, 0) _ rfl KF Tryz.underlying90 rfl Tryz.infoNc) rfl ?_
    refine ⟨A4, c4, rfl, (M6.rd P3.out.r4 fun a h0 ha e => ?_).drew, fun a h0 ha => ?_, ?_⟩
    · have := P3.out.far a h0 ha
      have := K0.out.lt
      have e' : a.block = g0 := e
      omega
    · have := P3.out.far a h0 ha
      have := B0.out.size
      omega
    · exact ((B1.out.trans (B3.out.mono B1.out.size)).trans (M6.bel.mono (Nat.le_of_eq HG.out))).drew
end Go.Proofs.YtnoflgkjdibblaaGreatDoor.S21
