/-
  Texts put together: RvB, RvC, RvD, RvM, RvN, RvP, SlO, RvO, RvR, RvQ. No statement is proved here.
-/
import Derived.Test.YtnoflgkjdibblaaGreatDoorWb19
import Derived.Test.YtnoflgkjdibblaaGreatDoorWb16
import Derived.Test.YtnoflgkjdibblaaGreatDoorWb10
import Derived.Test.YtnoflgkjdibblaaGreatDoorWb04
import Derived.Test.YtnoflgkjdibblaaGreatDoorWb09
import Derived.Test.YtnoflgkjdibblaaGreatDoorWb01
import Derived.Deep.CutRange
import Derived.Deep.LoopGhost
import Derived.Deep.CutBlock

/-
  A counter at rest, on a disk with which nothing fails, in plain words: a number is taken, the power goes and comes, it is opened anew. No statement is proved here.
-/
namespace Go.Proofs.YtnoflgkjdibblaaGreatDoor.S21
set_option linter.unusedSimpArgs false
set_option linter.unusedVariables false
set_option maxRecDepth 8192
open S19 S20

/-- A counter that isn't retired, with its head h, over slots and a disk at rest: what was saved last is what it is. -/
structure At (x : Cn) (h : List UInt8) (Z : Sl) (D : Dk) : Prop where
  fine : Fine Z D
  first : Z.first = 0
  n : Z.n = 8
  ok : x.Ok h.length
  live : x.gone = false
  there : ∀ Y : Sl, Y.first = 0 → Y.n = 8 → Y.loadC D = 0 ∧ Y.load D = Z ∧ Y.loadB D = x.row h
theorem Cn.Ok.head {x : Cn} {n : Nat} (h : x.Ok n) : n ≤ 200 := by have := h.may; unfold Cn.May at this; omega
theorem At.new {tot bat : Nat} {h : List UInt8} (m : (Cn.fresh tot bat).May h.length) : ∃ Z D, Cn.newC tot bat h aZ0 aD0 = 0 ∧ Cn.newZ tot bat h aZ0 aD0 = Z ∧ Cn.newD tot bat h aZ0 aD0 = D ∧ At (Cn.fresh tot bat) h Z D ∧ Z.num = 1 ∧ D.cnt = 9 := by
  have f0 : Fine aZ0 aD0 := Fine.new (by omega) (by omega) (by omega)
  obtain ⟨l1, l2⟩ := load_new (k := 16) (Z := aZ0) (by show 0 + 2 * 8 ≤ 16; omega) rfl rfl rfl
  have l1' : aZ0.loadC aD0 = 11 := l1
  have l2' : aZ0.load aD0 = aZ0 := l2
  have z1 : aZ0.n = 8 := rfl
  have hl : h.length ≤ 200 := by unfold Cn.May at m; omega
  obtain ⟨Z1, D1, p1, p2, p3, f1, a1, b1, d1, c1, o1⟩ := f0.next (b := (Cn.fresh tot bat).row h) (Fine.row_fits z1 _ hl) (by show 0 + 1 < _; omega)
  refine ⟨Z1, D1, ?_, ?_, ?_, ⟨f1, d1, a1, Cn.fresh_ok m, rfl, fun Y h1 h2 => o1 Y ⟨h1, h2⟩⟩, b1, c1⟩
  · rw [Cn.newC, if_pos m, if_neg (by rw [l1']; omega), if_pos l1', l2']; exact p3
  · rw [Cn.newZ, if_pos m, if_pos l1', l2']; exact p1
  · rw [Cn.newD, if_pos m, if_pos l1', l2']; exact p2
section
variable {x : Cn} {h : List UInt8} {Z : Sl} {D : Dk}
/-- None is left. -/
theorem At.out (a : At x h Z D) (q : x.tot ≤ x.nxt) : x.takeC h Z D = 9 ∧ x.takeN h Z D = 0 ∧ x.take h Z D = x ∧ x.takeZ h Z D = Z ∧ x.takeD h Z D = D := by
  have hl := a.live
  have e : x.takeC h Z D = 9 := by rw [Cn.takeC, if_neg (by rw [hl]; simp), if_pos q]
  have m : x.must = false := by simp [Cn.must]; omega
  refine ⟨e, by rw [Cn.takeN, e]; rfl, by rw [Cn.take, e]; rfl, by rw [Cn.takeZ, m]; rfl, by rw [Cn.takeD, m]; rfl⟩
/-- One that is reserved is taken. -/
theorem At.one (a : At x h Z D) (q : x.nxt < x.res) : x.takeC h Z D = 0 ∧ x.takeN h Z D = x.nxt ∧ x.take h Z D = x.next ∧ x.takeZ h Z D = Z ∧ x.takeD h Z D = D ∧ At x.next h Z D := by
  have hl := a.live
  have hm := a.ok.may
  unfold Cn.May at hm
  have e : x.takeC h Z D = 0 := by rw [Cn.takeC, if_neg (by rw [hl]; simp), if_neg (by omega), if_neg (by omega)]
  have m : x.must = false := by simp [Cn.must]; omega
  refine ⟨e, by rw [Cn.takeN, e]; rfl, by rw [Cn.take, e, m]; rfl, by rw [Cn.takeZ, m]; rfl, by rw [Cn.takeD, m]; rfl, ⟨a.fine, a.first, a.n, ⟨a.ok.may, q⟩, a.live, a.there⟩⟩
/-- A batch more is reserved, and one is taken. -/
theorem At.more (a : At x h Z D) (q : x.res ≤ x.nxt) (q2 : x.nxt < x.tot) (hn : Z.num + 1 < 18446744073709551616) : ∃ Z' D', x.takeC h Z D = 0 ∧ x.takeN h Z D = x.nxt ∧ x.take h Z D = x.more.next ∧ x.takeZ h Z D = Z' ∧ x.takeD h Z D = D' ∧ At x.more.next h Z' D' ∧ Z'.num = Z.num + 1 ∧ D'.cnt = D.cnt + 9 := by
  have hl := a.live
  have hm := a.ok.may
  obtain ⟨Z1, D1, p1, p2, p3, f1, a1, b1, d1, c1, o1⟩ := a.fine.next (b := x.more.row h) (Fine.row_fits a.n _ a.ok.head) hn
  have e : x.takeC h Z D = 0 := by rw [Cn.takeC, if_neg (by rw [hl]; simp), if_neg (by omega), if_pos q]; exact p3
  have m : x.must = true := by simp [Cn.must, hl]; omega
  refine ⟨Z1, D1, e, by rw [Cn.takeN, e]; rfl, by rw [Cn.take, e, m]; rfl, by rw [Cn.takeZ, m]; exact p1, by rw [Cn.takeD, m]; exact p2, ⟨f1, d1.trans a.first, a1.trans a.n, ⟨Cn.more_may hm, ?_⟩, a.live, fun Y h1 h2 => o1 Y ⟨h1.trans a.first.symm, h2.trans a.n.symm⟩⟩, b1, by rw [c1, a.n]⟩
  unfold Cn.May at hm
  have hle := a.ok.le
  show x.nxt + 1 ≤ (if x.tot < x.res + x.bat then x.tot else x.res + x.bat)
  split <;> omega
/-- The power goes and comes, with no plan. -/
theorem At.up (a : At x h Z D) (ch : List UInt8) : D.up ch [] 0 = { D with cnt := 0 } ∧ At x h Z { D with cnt := 0 } := by
  have hc := a.fine.calm
  have hp := a.fine.pend
  have ha : ∀ (Y : Sl) i, Y.area { D with cnt := 0 } i = Y.area D i := fun Y i => areaK_same Y.n fun j _ => rfl
  have hs : ∀ Y : Sl, Y.seen { D with cnt := 0 } = Y.seen D := fun Y => by
    unfold Sl.seen Sl.look
    rw [ha, ha]
  have hC : ∀ Y : Sl, Y.loadC { D with cnt := 0 } = Y.loadC D := fun Y => by
    unfold Sl.loadC
    rw [hs, ha, ha]
  have hL : ∀ Y : Sl, Y.load { D with cnt := 0 } = Y.load D := fun Y => by
    unfold Sl.load
    rw [hs]
  have hB : ∀ Y : Sl, Y.loadB { D with cnt := 0 } = Y.loadB D := fun Y => by
    unfold Sl.loadB
    rw [hC, hL]
  refine ⟨?_, ⟨⟨⟨hc.off, hc.stop, hc.fails⟩, hp, ⟨a.fine.ok.one, a.fine.ok.most, a.fine.ok.fits, a.fine.ok.at_, a.fine.ok.num⟩, by rw [ha]; exact a.fine.low⟩, a.first, a.n, a.ok, a.live, fun Y h1 h2 => by rw [hC, hL, hB]; exact a.there Y h1 h2⟩⟩
  cases D
  have h1 := hc.off
  have h2 := hc.stop
  have h3 := hc.fails
  simp only at h1 h2 h3 hp
  subst h1 h2 h3 hp
  rfl
/-- It is opened anew. -/
theorem At.opn (a : At x h Z D) (Y : Sl) (h1 : Y.first = 0) (h2 : Y.n = 8) : Cn.openC Y D = 0 ∧ Cn.openX Y D = { x with nxt := x.res } ∧ Cn.openH Y D = h ∧ Y.load D = Z ∧ At { x with nxt := x.res } h Z D := by
  obtain ⟨u1, u2, u3⟩ := a.there Y h1 h2
  have fx := a.ok.fit
  refine ⟨by rw [Cn.openC, if_pos u1, u3]; exact Cn.read_row x h fx a.ok.may, by rw [Cn.openX, u3, Cn.ofB_row x h fx], by rw [Cn.openH, u3, Cn.row_f], u2, ⟨a.fine, a.first, a.n, ⟨a.ok.may, Nat.le_refl _⟩, a.live, a.there⟩⟩
end
/-- So many were taken, with nothing lost: how many batches were saved. -/
structure Al (n b i k : Nat) (x : Cn) (Z : Sl) (D : Dk) : Prop where
  at_ : At x [] Z D
  tot : x.tot = n
  bat : x.bat = b
  nxt : x.nxt = i
  res : x.res = if n < b * k then n else b * k
  lo : i ≤ b * k
  hi : b * k < i + b
  num : Z.num = 1 + k
  cnt : D.cnt = 9 * (1 + k)
theorem Al.div {n b i k : Nat} (hb : 0 < b) (h1 : i < b * k) (h2 : b * k < i + 1 + b) : 1 + k = 2 + i / b := by
  have h3 : 0 < k := by
    rcases Nat.eq_zero_or_pos k with h | h
    · subst h; omega
    · exact h
  obtain ⟨m, rfl⟩ : ∃ m, k = m + 1 := ⟨k - 1, by omega⟩
  rw [Nat.mul_add, Nat.mul_one] at h1 h2
  have : i / b = m := by
    rw [Nat.div_eq_iff hb]
    rw [Nat.mul_comm m b]
    omega
  omega
theorem Al.step {n b i k : Nat} {x : Cn} {Z : Sl} {D : Dk} (t : Al n b i k x Z D) (hi : i < n) (hn : n ≤ 60) (hb : 0 < b) (hb2 : b ≤ 70) :
    ∃ Z' D' x' k', x.takeC [] Z D = 0 ∧ x.takeN [] Z D = i ∧ x.take [] Z D = x' ∧ x.takeZ [] Z D = Z' ∧ x.takeD [] Z D = D' ∧ Al n b (i + 1) k' x' Z' D' ∧ Z'.num = 2 + i / b := by
  have hk : k ≤ 60 := by
    have h1 := t.hi
    rcases Nat.lt_or_ge 60 k with h | h
    · have : b * 61 ≤ b * k := Nat.mul_le_mul_left b h
      omega
    · exact h
  by_cases q : x.nxt < x.res
  · obtain ⟨e1, e2, e3, e4, e5, e6⟩ := t.at_.one q
    have hik : i < b * k := by
      have h1 := t.res
      have h2 := t.nxt
      split at h1 <;> omega
    have hd := Al.div (n := n) hb hik (by have := t.hi; omega)
    exact ⟨Z, D, x.next, k, e1, by rw [e2, t.nxt], e3, e4, e5, ⟨e6, t.tot, t.bat, by show x.nxt + 1 = _; rw [t.nxt], t.res, by omega, by have := t.hi; omega, t.num, t.cnt⟩, by rw [t.num]; exact hd⟩
  · have hr := t.res
    have hx := t.nxt
    have hlo := t.lo
    have hhi := t.hi
    have ht := t.tot
    have hbk : b * k = i := by split at hr <;> omega
    obtain ⟨Z', D', e1, e2, e3, e4, e5, e6, e7, e8⟩ := t.at_.more (by omega) (by omega) (by rw [t.num]; omega)
    have hd := Al.div (n := n) (k := k + 1) (i := i) hb (by rw [Nat.mul_add, hbk]; omega) (by rw [Nat.mul_add, hbk]; omega)
    refine ⟨Z', D', x.more.next, k + 1, e1, by rw [e2, hx], e3, e4, e5, ⟨e6, t.tot, t.bat, by show x.nxt + 1 = _; rw [hx], ?_, by rw [Nat.mul_add, hbk]; omega, by rw [Nat.mul_add, hbk]; omega, by rw [e7, t.num]; omega, by rw [e8, t.cnt]; omega⟩, by rw [e7, t.num]; omega⟩
    show (if x.tot < x.res + x.bat then x.tot else x.res + x.bat) = _
    have hres : x.res = i := by split at hr <;> omega
    rw [hres, t.tot, t.bat, Nat.mul_add, hbk, Nat.mul_one]
theorem Al.start {n b : Nat} (h1 : 0 < n) (h2 : n ≤ 60) (h3 : 0 < b) (h4 : b ≤ 70) : ∃ Z D, Cn.newC n b [] aZ0 aD0 = 0 ∧ Cn.newZ n b [] aZ0 aD0 = Z ∧ Cn.newD n b [] aZ0 aD0 = D ∧ Al n b 0 0 (Cn.fresh n b) Z D := by
  obtain ⟨Z, D, e1, e2, e3, e4, e5, e6⟩ := At.new (tot := n) (bat := b) (h := []) (by unfold Cn.May Cn.fresh; simp; omega)
  exact ⟨Z, D, e1, e2, e3, e4, rfl, rfl, rfl, by simp [Cn.fresh], by omega, by omega, by rw [e5], by rw [e6]⟩
end Go.Proofs.YtnoflgkjdibblaaGreatDoor.S21

/-
  With losses of power alone, between numbers: what was given out and what was skipped, in plain words. No statement is proved here.
-/
namespace Go.Proofs.YtnoflgkjdibblaaGreatDoor.S21
set_option linter.unusedSimpArgs false
set_option linter.unusedVariables false
set_option maxRecDepth 8192
open S19 S20

/-- Behind so many steps. -/
structure Lo (b i gv sk : Nat) (x : Cn) (Z : Sl) (D : Dk) : Prop where
  at_ : At x [] Z D
  tot : x.tot = 40
  bat : x.bat = b
  few : x.res < x.nxt + b
  sum : gv + sk = x.nxt
  num : Z.num ≤ 1 + i
  cnt : D.cnt ≤ 9 * (1 + i)
theorem Lo.start {b : Nat} (h3 : 0 < b) (h4 : b ≤ 9) : ∃ Z D, Cn.newC 40 b [] aZ0 aD0 = 0 ∧ Cn.newZ 40 b [] aZ0 aD0 = Z ∧ Cn.newD 40 b [] aZ0 aD0 = D ∧ Lo b 0 0 0 (Cn.fresh 40 b) Z D := by
  obtain ⟨Z, D, e1, e2, e3, e4, e5, e6⟩ := At.new (tot := 40) (bat := b) (h := []) (by unfold Cn.May Cn.fresh; simp; omega)
  exact ⟨Z, D, e1, e2, e3, e4, rfl, rfl, by show 0 < 0 + b; omega, rfl, by omega, by omega⟩
section
variable {b i gv sk : Nat} {x : Cn} {Z : Sl} {D : Dk}
theorem Lo.below (t : Lo b i gv sk x Z D) : x.nxt ≤ x.res ∧ x.res ≤ 40 := by
  have h1 := t.at_.ok.le
  have h2 := t.at_.ok.may
  unfold Cn.May at h2
  have := t.tot
  omega
theorem Lo.out (t : Lo b i gv sk x Z D) (q : 40 ≤ x.nxt) : x.takeC [] Z D = 9 ∧ x.takeN [] Z D = 0 ∧ gv + sk = 40 := by
  obtain ⟨e1, e2, _⟩ := t.at_.out (by rw [t.tot]; exact q)
  exact ⟨e1, e2, by have := t.below; have := t.sum; omega⟩
theorem Lo.take (t : Lo b i gv sk x Z D) (q : x.nxt < 40) (hi : i < 60) : ∃ Z' D' x', x.takeC [] Z D = 0 ∧ x.takeN [] Z D = gv + sk ∧ x.take [] Z D = x' ∧ x.takeZ [] Z D = Z' ∧ x.takeD [] Z D = D' ∧ Lo b (i + 1) (gv + 1) sk x' Z' D' := by
  have hs := t.sum
  have hf := t.few
  by_cases q2 : x.nxt < x.res
  · obtain ⟨e1, e2, e3, e4, e5, e6⟩ := t.at_.one q2
    exact ⟨Z, D, x.next, e1, by rw [e2, hs], e3, e4, e5, ⟨e6, t.tot, t.bat, by show x.res < x.nxt + 1 + b; omega, by show gv + 1 + sk = x.nxt + 1; omega, by have := t.num; omega, by have := t.cnt; omega⟩⟩
  · obtain ⟨Z', D', e1, e2, e3, e4, e5, e6, e7, e8⟩ := t.at_.more (by omega) (by rw [t.tot]; exact q) (by have := t.num; omega)
    refine ⟨Z', D', x.more.next, e1, by rw [e2, hs], e3, e4, e5, ⟨e6, t.tot, t.bat, ?_, by show gv + 1 + sk = x.nxt + 1; omega, by have := t.num; omega, by have := t.cnt; omega⟩⟩
    show (if x.tot < x.res + x.bat then x.tot else x.res + x.bat) < x.nxt + 1 + b
    have := t.bat
    have := t.below
    split <;> omega
end
/-- So many were taken of a hundred, by three. -/
structure Hd (i : Nat) (h : List UInt8) (x : Cn) (Z : Sl) (D : Dk) : Prop where
  at_ : At x h Z D
  tot : x.tot = 100
  nxt : x.nxt = i
  num : Z.num ≤ 1 + i
  cnt : D.cnt ≤ 9 * (1 + i)
theorem Hd.start {h : List UInt8} (hl : h.length ≤ 200) : ∃ Z D, Cn.newC 100 3 h aZ0 aD0 = 0 ∧ Cn.newZ 100 3 h aZ0 aD0 = Z ∧ Cn.newD 100 3 h aZ0 aD0 = D ∧ Hd 0 h (Cn.fresh 100 3) Z D := by
  obtain ⟨Z, D, e1, e2, e3, e4, e5, e6⟩ := At.new (tot := 100) (bat := 3) (h := h) (by unfold Cn.May Cn.fresh; simp; omega)
  exact ⟨Z, D, e1, e2, e3, e4, rfl, rfl, by omega, by omega⟩
theorem Hd.step {i : Nat} {h : List UInt8} {x : Cn} {Z : Sl} {D : Dk} (t : Hd i h x Z D) (hi : i < 20) : ∃ Z' D' x', x.takeC h Z D = 0 ∧ x.takeN h Z D = i ∧ x.take h Z D = x' ∧ x.takeZ h Z D = Z' ∧ x.takeD h Z D = D' ∧ Hd (i + 1) h x' Z' D' := by
  have hx := t.nxt
  have ht := t.tot
  by_cases q2 : x.nxt < x.res
  · obtain ⟨e1, e2, e3, e4, e5, e6⟩ := t.at_.one q2
    exact ⟨Z, D, x.next, e1, by rw [e2, hx], e3, e4, e5, ⟨e6, t.tot, by show x.nxt + 1 = _; rw [hx], by have := t.num; omega, by have := t.cnt; omega⟩⟩
  · obtain ⟨Z', D', e1, e2, e3, e4, e5, e6, e7, e8⟩ := t.at_.more (by omega) (by omega) (by have := t.num; omega)
    exact ⟨Z', D', x.more.next, e1, by rw [e2, hx], e3, e4, e5, ⟨e6, t.tot, by show x.nxt + 1 = _; rw [hx], by have := t.num; omega, by have := t.cnt; omega⟩⟩
theorem Hd.opn {i : Nat} {h : List UInt8} {x : Cn} {Z : Sl} {D : Dk} (t : Hd i h x Z D) (Y : Sl) (h1 : Y.first = 0) (h2 : Y.n = 8) : Cn.openC Y D = 0 ∧ (Cn.openX Y D).tot = 100 ∧ Cn.openH Y D = h ∧ Y.load D = Z := by
  obtain ⟨o1, o2, o3, o4, _⟩ := t.at_.opn Y h1 h2
  exact ⟨o1, by rw [o2]; exact t.tot, o3, o4⟩
end Go.Proofs.YtnoflgkjdibblaaGreatDoor.S21

/-
  A counter, its slots and its disk in memory, apart; what the calls on them come to. No statement is proved here.
-/
namespace Go.Proofs.YtnoflgkjdibblaaGreatDoor.S21
set_option linter.unusedSimpArgs false
set_option linter.unusedVariables false
set_option maxRecDepth 8192
open Go.RowKit S19 S20

/-- The landed counter, slots and disk, apart. -/
structure Lv (M : DC) (C : SlC M) (K : RvC M C) (N : Nat) (w : World) (g s cc : Nat) (x : Cn) (h : List UInt8) (Z : Sl) (D : Dk) (F S R : Nat → Prop) : Prop where
  lz : Lz M C N w g s D Z F S
  is : K.Is N w cc s x h R
  ap : ∀ b, R b → ¬ Or2 F S b
section
variable {M : DC} {C : SlC M} {K : RvC M C} {N : Nat} {w w' X : World} {g s cc : Nat} {x : Cn} {h : List UInt8} {Z : Sl} {D : Dk} {F S R : Nat → Prop}
theorem Lv.grow (t : Lv M C K N w g s cc x h Z D F S R) (hb : Below w.heap.size w w') : Lv M C K N w' g s cc x h Z D F S R :=
  ⟨t.lz.grow hb, K.keep t.is hb.size fun b _ hl => hb.block b hl, t.ap⟩
theorem Lv.lt (t : Lv M C K N w g s cc x h Z D F S R) : ∀ b, Or3 F S R b → N ≤ b ∧ b < w.heap.size := by
  rintro b (e | e | e)
  · exact t.lz.lt b (.inl e)
  · exact t.lz.lt b (.inr e)
  · exact K.lt t.is b e
theorem Lv.keep (t : Lv M C K N w g s cc x h Z D F S R) (hs : w.heap.size ≤ w'.heap.size) (hk : ∀ b, (b < N ∨ Or3 F S R b) → b < w.heap.size → w'.heap[b]? = w.heap[b]?) : Lv M C K N w' g s cc x h Z D F S R :=
  ⟨⟨M.keep t.lz.is hs fun b hb hl => hk b (hb.imp id .inl) hl, C.keep t.lz.sl hs fun b hb hl => hk b (hb.imp id (fun e => .inr (.inl e))) hl, t.lz.dj, t.lz.zo⟩, K.keep t.is hs fun b hb hl => hk b (hb.imp id (fun e => .inr (.inr e))) hl, t.ap⟩
/-- The slots have moved, and the disk; the counter hasn't. -/
theorem Lv.under (t : Lv M C K N w g s cc x h Z D F S R) {Z' : Sl} {D' : Dk} {F' S' : Nat → Prop} (hL : Lz M C N w' g s D' Z' F' S') (hs : ∀ b, Or2 F' S' b → Or2 F S b ∨ w.heap.size ≤ b) (m : Mv N (Or2 F S) w w') : Lv M C K N w' g s cc x h Z' D' F' S' R := by
  refine ⟨hL, K.keep t.is m.size fun b hb hl => m.same b hl fun hO => ?_, fun b hb hO => ?_⟩
  · rcases hb with e | e
    · have := (t.lz.lt b hO).1; omega
    · exact t.ap b e hO
  · rcases hs b hO with e | e
    · exact t.ap b hb e
    · have := (K.lt t.is b hb).2; omega
theorem Lv.take (t : Lv M C K N X g s cc x h Z D F S R) (hk : K.ok X) (ho : x.Ok h.length) (hc : D.cnt < 1099511600000) : Calls Tryz.prog 13 #[.pointer (some ⟨cc, 0, none⟩)] X fun e w' =>
    ∃ F' S' R', e = .returned (.tuple #[.int .u64 (x.takeN h Z D : Int), .int .i64 (x.takeC h Z D : Int)]) ∧ Lv M C K N w' g s cc (x.take h Z D) h (x.takeZ h Z D) (x.takeD h Z D) F' S' R' ∧ (∀ b, Or3 F' S' R' b → Or3 F S R b ∨ X.heap.size ≤ b) ∧ Mv N (Or3 F S R) X w' :=
  (K.take N X cc s g x h D Z F S R hk t.lz t.is t.ap ho hc).mono fun e w' ⟨F', S', R', h1, h2, h3, h4, h5, h6⟩ => ⟨F', S', R', h1, ⟨h2, h3, h4⟩, h5, h6⟩
theorem Lv.now (t : Lv M C K N X g s cc x h Z D F S R) (hk : K.ok X) : Calls Tryz.prog 54 #[.pointer (some ⟨s, 0, none⟩)] X fun e w' => ∃ A c, e = .returned (.tuple #[.slice A Z.b.length c, .int .u64 (Z.num : Int)]) ∧ Lv M C K N w' g s cc x h Z D F S R ∧ Below N X w' := by
  refine (C.now N X s g Z S (K.okC hk) t.lz.sl).mono fun e w' ⟨A, c, h1, h2, h0, h3, h4⟩ => ⟨A, c, h1, t.under ⟨M.keep t.lz.is h4.size fun b hb hl => h4.same b hl fun hS => ?_, h3, t.lz.dj, t.lz.zo⟩ (fun b hb => .inl hb) (h4.mono fun b hb => .inr hb), h4.bel⟩
  rcases hb with e | e
  · have := (C.lt t.lz.sl b hS).1; omega
  · exact t.lz.dj b e hS
theorem Lv.head (t : Lv M C K N X g s cc x h Z D F S R) (hk : K.ok X) : Calls Tryz.prog 27 #[.pointer (some ⟨cc, 0, none⟩)] X fun e w' => ∃ A c, e = .returned (.slice A h.length c) ∧ w'.ownsRow X.heap.size 5 1 (.slice A h.length c) h.length (bv h) ∧ Lv M C K N w' g s cc x h Z D F S R ∧ Below X.heap.size X w' :=
  (K.head N X cc s x h R hk t.is).mono fun e w' ⟨A, c, h1, h2, h4⟩ => ⟨A, c, h1, h2, t.grow h4, h4⟩
theorem Lv.state (t : Lv M C K N X g s cc x h Z D F S R) (hk : K.ok X) : Calls Tryz.prog 25 #[.pointer (some ⟨cc, 0, none⟩)] X fun e w' => e = .returned (.agg x.cells) ∧ Lv M C K N w' g s cc x h Z D F S R ∧ Below X.heap.size X w' :=
  (K.state N X cc s x h R hk t.is).mono fun e w' ⟨h1, h4⟩ => ⟨h1, t.grow h4, h4⟩
end
section
variable {M : DC} {C : SlC M} {K : RvC M C} {N : Nat} {w : World}
/-- A new disk, new slots. -/
theorem made_disk (M : DC) (C : SlC M) (K : RvC M C) (X : World) (hk : K.ok X) (hN : N ≤ X.heap.size) : Calls Tryz.prog 6 #[.int .i64 16] X fun e w' => ∃ g F, e = .returned (.tuple #[.pointer (some ⟨g, 0, none⟩), .int .i64 0]) ∧ M.Is N w' g aD0 F ∧ Below N X w' :=
  (M.new N X 16 (C.okM (K.okC hk)) hN (by omega) (by omega)).mono fun e w' ⟨g, F, h1, h2, h3, h4⟩ => ⟨g, F, h1, h2, h4.mono hN⟩
theorem made_slots (K : RvC M C) {X : World} (hk : K.ok X) {g : Nat} {D : Dk} {F : Nat → Prop} (hI : M.Is N X g D F) (hl : 16 ≤ D.sure.length) : Calls Tryz.prog 8 #[.pointer (some ⟨g, 0, none⟩), .int .i64 0, .int .i64 8] X fun e w' => ∃ s F' S', e = .returned (.tuple #[.pointer (some ⟨s, 0, none⟩), .int .i64 0]) ∧ Lz M C N w' g s D aZ0 F' S' ∧ (∀ b, Or2 F' S' b → F b ∨ X.heap.size ≤ b) ∧ Mv N F X w' :=
  (C.new N X g D F 0 8 (K.okC hk) hI (decide_eq_true (by omega))).mono fun e w' ⟨s, S, F', h1, h2, h3, h4, h5, h6, h7⟩ => ⟨s, F', S, h1, ⟨h3, h2, h6, new_ok (first := 0) (n := 8) (decide_eq_true (by omega))⟩, fun b hb => hb.elim (h5 b) (fun e => .inr (h4 b e)), h7⟩
end
end Go.Proofs.YtnoflgkjdibblaaGreatDoor.S21

/-
  Both counters, the landed one and the document's own, with their slots and disks, apart; a number is taken, a counter is retired, on both sides. No statement is proved here.
-/
namespace Go.Proofs.YtnoflgkjdibblaaGreatDoor.S21
set_option linter.unusedSimpArgs false
set_option linter.unusedVariables false
set_option maxRecDepth 4096
open Go.RowKit S19 S20

/-- Both counters are open. -/
structure Po (M : DC) (C : SlC M) (K : RvC M C) (N : Nat) (w : World) (g s cc h q kc : Nat) (L : Value) (k : Nat) (D : Dk) (Z : Sl) (x : Cn) (hd : List UInt8) (D2 : Dk) (Z2 : Sl) (x2 : Cn) (hd2 : List UInt8) (F S U G R T V : Nat → Prop) : Prop where
  lv : Lv M C K N w g s cc x hd Z D F S U
  qc : Qc N w h q kc L k D2 Z2 x2 hd2 G R T V
  ap : ∀ b, Or3 F S U b → ¬ (Or3 G R T b ∨ V b)
/-- Neither is: the document's own is the empty one. -/
structure Pz (M : DC) (C : SlC M) (N : Nat) (w : World) (g s h q kc : Nat) (L : Value) (k : Nat) (D : Dk) (Z : Sl) (D2 : Dk) (Z2 : Sl) (F S G R T : Nat → Prop) : Prop where
  bo : Bo M C N w g s h q L k D Z D2 Z2 F S G R T
  kb : Bk w kc 48 zK
  kn : N ≤ kc
  ka : ¬ Or2 F S kc ∧ ¬ Or3 G R T kc
section
variable {M : DC} {C : SlC M} {K : RvC M C} {N : Nat} {w w' : World} {g s cc h q kc k k' : Nat} {L L' : Value} {D D' D2 D2' : Dk} {Z Z' Z2 Z2' : Sl} {x x' x2 x2' : Cn} {hd hd2 : List UInt8} {F S U G R T V F' S' U' G' R' T' : Nat → Prop}
theorem Qc.keep (t : Qc N w h q kc L k D Z x hd G S T V) (hs : w.heap.size ≤ w'.heap.size) (hk : ∀ b, (b < N ∨ Or3 G S T b ∨ V b) → b < w.heap.size → w'.heap[b]? = w.heap[b]?) : Qc N w' h q kc L k D Z x hd G S T V :=
  ⟨t.qs.keep hs fun b hb hl => hk b (hb.imp id .inl) hl, t.rc.keep hs fun b hb hl => hk b (hb.imp id .inr) hl, t.kg, t.ks⟩
theorem Qc.lt (t : Qc N w h q kc L k D Z x hd G S T V) : ∀ b, (Or3 G S T b ∨ V b) → N ≤ b ∧ b < w.heap.size := fun b hb => hb.elim (t.qs.lt b) (t.rc.lt b)
theorem Po.grow (t : Po M C K N w g s cc h q kc L k D Z x hd D2 Z2 x2 hd2 F S U G R T V) (hb : Below w.heap.size w w') : Po M C K N w' g s cc h q kc L k D Z x hd D2 Z2 x2 hd2 F S U G R T V := ⟨t.lv.grow hb, t.qc.grow hb, t.ap⟩
/-- The landed side has moved. -/
theorem Po.left (t : Po M C K N w g s cc h q kc L k D Z x hd D2 Z2 x2 hd2 F S U G R T V) (l : Lv M C K N w' g s cc x' hd Z' D' F' S' U') (hs : ∀ b, Or3 F' S' U' b → Or3 F S U b ∨ w.heap.size ≤ b) (m : Mv N (Or3 F S U) w w') : Po M C K N w' g s cc h q kc L k D' Z' x' hd D2 Z2 x2 hd2 F' S' U' G R T V := by
  refine ⟨l, t.qc.keep m.size fun b hb hl => m.same b hl fun hO => ?_, fun b h1 h2 => ?_⟩
  · rcases hb with e | e
    · have := (t.lv.lt b hO).1; omega
    · exact t.ap b hO e
  · rcases hs b h1 with e | e
    · exact t.ap b e h2
    · have := (t.qc.lt b h2).2; omega
/-- The document's own side has moved. -/
theorem Po.right (t : Po M C K N w g s cc h q kc L k D Z x hd D2 Z2 x2 hd2 F S U G R T V) (p : Qc N w' h q kc L' k' D2' Z2' x2' hd2 G' R' T' V) (hs : Sub3 G R T G' R' T' w.heap.size) (m : Mv N (fun b => Or3 G (fun x => x = q) T b ∨ b = kc) w w') : Po M C K N w' g s cc h q kc L' k' D Z x hd D2' Z2' x2' hd2 F S U G' R' T' V := by
  have sub : ∀ b, (Or3 G (fun x => x = q) T b ∨ b = kc) → Or3 G R T b ∨ V b := by
    rintro b ((e | e | e) | e)
    · exact .inl (.inl e)
    · have e' : b = q := e
      exact .inl (.inr (.inl (by rw [e']; exact t.qc.qs.rz.at_)))
    · exact .inl (.inr (.inr e))
    · exact .inr (by rw [e]; exact t.qc.rc.at_)
  refine ⟨t.lv.keep m.size fun b hb hl => m.same b hl fun hO => ?_, p, fun b h1 h2 => ?_⟩
  · rcases hb with e | e
    · have := (t.qc.lt b (sub b hO)).1; omega
    · exact t.ap b e (sub b hO)
  · rcases h2 with e | e
    · rcases hs.or b e with e | e
      · exact t.ap b h1 (.inl e)
      · have := (t.lv.lt b h1).2; omega
    · exact t.ap b h1 (.inr e)
theorem Po.take1 (t : Po M C K N w g s cc h q kc L k D Z x hd D2 Z2 x2 hd2 F S U G R T V) (hk : K.ok w) (ho : x.Ok hd.length) (hc : D.cnt < 1099511600000) : Calls Tryz.prog 13 #[.pointer (some ⟨cc, 0, none⟩)] w fun e w' =>
    ∃ F' S' U', e = .returned (.tuple #[.int .u64 (x.takeN hd Z D : Int), .int .i64 (x.takeC hd Z D : Int)]) ∧ Po M C K N w' g s cc h q kc L k (x.takeD hd Z D) (x.takeZ hd Z D) (x.take hd Z D) hd D2 Z2 x2 hd2 F' S' U' G R T V ∧ Below N w w' :=
  (t.lv.take hk ho hc).mono fun e w' ⟨F', S', U', h1, h2, h3, h4⟩ => ⟨F', S', U', h1, t.left h2 h3 h4, h4.bel⟩
theorem Po.take2 (t : Po M C K N w g s cc h q kc L k D Z x hd D2 Z2 x2 hd2 F S U G R T V) (ho : x2.Ok hd2.length) (hc : D2.cnt < 1099511600000) (hk : k < 1000000) : Calls Tryz.prog 14 #[.pointer (some ⟨kc, 0, none⟩)] w fun e w' =>
    ∃ L' k' G' R' T', e = .returned (.tuple #[.int .u64 (x2.takeN hd2 Z2 D2 : Int), .int .i64 (x2.takeC hd2 Z2 D2 : Int)]) ∧ k' ≤ k + 1 ∧ Po M C K N w' g s cc h q kc L' k' D Z x hd (x2.takeD hd2 Z2 D2) (x2.takeZ hd2 Z2 D2) (x2.take hd2 Z2 D2) hd2 F S U G' R' T' V ∧ Below N w w' :=
  (rtake21_any N w h q kc L k D2 Z2 x2 hd2 G R T V t.qc ho (by omega) hk).mono fun e w' ⟨h1, L', k', G', R', T', h2, h3, h4, h5⟩ => ⟨L', k', G', R', T', h1, h2, t.right h3 h4 h5, h5.bel⟩
theorem Po.ret2 (t : Po M C K N w g s cc h q kc L k D Z x hd D2 Z2 x2 hd2 F S U G R T V) (ho : x2.Ok hd2.length) (hc : D2.cnt < 1099511600000) (hk : k < 1000000) : Calls Tryz.prog 16 #[.pointer (some ⟨kc, 0, none⟩)] w fun e w' =>
    ∃ L' k' G' R' T', e = .returned (.int .i64 (x2.retC hd2 Z2 D2 : Int)) ∧ k' ≤ k + 1 ∧ Po M C K N w' g s cc h q kc L' k' D Z x hd (x2.retD hd2 Z2 D2) (x2.retZ hd2 Z2 D2) (x2.ret hd2 Z2 D2) hd2 F S U G' R' T' V ∧ Below N w w' :=
  (rretire21_any N w h q kc L k D2 Z2 x2 hd2 G R T V t.qc ho (by omega) hk).mono fun e w' ⟨h1, L', k', G', R', T', h2, h3, h4, h5⟩ => ⟨L', k', G', R', T', h1, h2, t.right h3 h4 h5, h5.bel⟩
theorem Pz.grow (t : Pz M C N w g s h q kc L k D Z D2 Z2 F S G R T) (hb : Below w.heap.size w w') : Pz M C N w' g s h q kc L k D Z D2 Z2 F S G R T := ⟨t.bo.grow hb, t.kb.below hb t.kb.lt, t.kn, t.ka⟩
end
theorem Po.ret1 {M : DC} {C : SlC M} (K : RvT M C) {N : Nat} {w : World} {g s cc h q kc k : Nat} {L : Value} {D D2 : Dk} {Z Z2 : Sl} {x x2 : Cn} {hd hd2 : List UInt8} {F S U G R T V : Nat → Prop} (t : Po M C K.toRvC N w g s cc h q kc L k D Z x hd D2 Z2 x2 hd2 F S U G R T V) (hk : K.ok w) (ho : x.Ok hd.length) (hc : D.cnt < 1099511600000) : Calls Tryz.prog 15 #[.pointer (some ⟨cc, 0, none⟩)] w fun e w' =>
    ∃ F' S' U', e = .returned (.int .i64 (x.retC hd Z D : Int)) ∧ Po M C K.toRvC N w' g s cc h q kc L k (x.retD hd Z D) (x.retZ hd Z D) (x.ret hd Z D) hd D2 Z2 x2 hd2 F' S' U' G R T V ∧ Below N w w' :=
  (K.ret N w cc s g x hd D Z F S U hk t.lv.lz t.lv.is t.lv.ap ho hc).mono fun e w' ⟨F', S', U', h1, h2, h3, h4, h5, h6⟩ => ⟨F', S', U', h1, t.left ⟨h2, h3, h4⟩ h5 h6, h6.bel⟩
end Go.Proofs.YtnoflgkjdibblaaGreatDoor.S21

/-
  Counters that are made and opened, on both sides. No statement is proved here.
-/
namespace Go.Proofs.YtnoflgkjdibblaaGreatDoor.S21
set_option linter.unusedSimpArgs false
set_option linter.unusedVariables false
set_option maxRecDepth 4096
open Go.RowKit S19 S20

/-- The landed counter is open; on the document's side lie disk and slots alone. -/
structure Lb (M : DC) (C : SlC M) (K : RvC M C) (N : Nat) (w : World) (g s cc h q : Nat) (L : Value) (k : Nat) (D : Dk) (Z : Sl) (x : Cn) (hd : List UInt8) (D2 : Dk) (Z2 : Sl) (F S U G R T : Nat → Prop) : Prop where
  lv : Lv M C K N w g s cc x hd Z D F S U
  qs : Qs N w h q L k D2 Z2 G R T
  ap : ∀ b, Or3 F S U b → ¬ Or3 G R T b
section
variable {M : DC} {C : SlC M} {K : RvC M C} {N : Nat} {w w' : World} {g s cc h q kc k k' : Nat} {L L' : Value} {D D' D2 D2' : Dk} {Z Z' Z2 Z2' : Sl} {x x' x2 x2' : Cn} {hd hd2 : List UInt8} {F S U G R T V F' S' U' G' R' T' : Nat → Prop}
theorem Lb.grow (t : Lb M C K N w g s cc h q L k D Z x hd D2 Z2 F S U G R T) (hb : Below w.heap.size w w') : Lb M C K N w' g s cc h q L k D Z x hd D2 Z2 F S U G R T := ⟨t.lv.grow hb, t.qs.grow hb, t.ap⟩
/-- Of the landed slots a counter is made. -/
theorem Bo.open (t : Bo M C N w g s h q L k D Z D2 Z2 F S G R T) (hL : Lz M C N w' g s D' Z' F' S') (hs : ∀ b, Or2 F' S' b → Or2 F S b ∨ w.heap.size ≤ b) (m : Mv N (Or2 F S) w w') (hi : K.Is N w' cc s x hd U) (h1 : ∀ b, U b → w.heap.size ≤ b) (h2 : ∀ b, U b → ¬ Or2 F' S' b) :
    Lb M C K N w' g s cc h q L k D' Z' x hd D2 Z2 F' S' U G R T := by
  have t' := t.left hL hs m
  refine ⟨⟨hL, hi, h2⟩, t'.qs, fun b hb e => ?_⟩
  rcases hb with e2 | e2 | e2
  · exact t'.ap b (.inl e2) e
  · exact t'.ap b (.inr e2) e
  · have := h1 b e2; have := (t.qs.lt b e).2; omega
theorem made1 (K : RvC M C) (t : Bo M C N w g s h q L k D Z D2 Z2 F S G R T) (hk : ∀ Y, Below N w Y → K.ok Y) {A : Option Addr} {n c : Nat} (hr : Rd w A n c hd) (hA : ∀ a, 0 < n → A = some a → a.block < N) {tot bat : Nat} (ht : tot < 18446744073709551616) (hb : bat < 18446744073709551616) (hc : D.cnt < 1099511600000) (hn : n ≤ 100000) :
    Calls Tryz.prog 10 #[.pointer (some ⟨s, 0, none⟩), .slice A n c, .int .u64 (tot : Int), .int .u64 (bat : Int)] w fun e w' => ∃ p F' S', e = .returned (.tuple #[.pointer p, .int .i64 (Cn.newC tot bat hd Z D : Int)]) ∧
      (Cn.newC tot bat hd Z D ≠ 0 → p = none ∧ Bo M C N w' g s h q L k (Cn.newD tot bat hd Z D) (Cn.newZ tot bat hd Z D) D2 Z2 F' S' G R T) ∧
      (Cn.newC tot bat hd Z D = 0 → ∃ cc U, p = some ⟨cc, 0, none⟩ ∧ Lb M C K N w' g s cc h q L k (Cn.newD tot bat hd Z D) (Cn.newZ tot bat hd Z D) (Cn.fresh tot bat) hd D2 Z2 F' S' U G R T) ∧ Below N w w' :=
  (K.new N w s g D Z F S A n c hd tot bat hk t.lz hr (fun a h0 ha e => by have := hA a h0 ha; have := (t.lz.lt _ e).1; omega) hc ht hb hn).mono fun e w' ⟨p, F', S', h1, h2, h3, h4, h5, h6⟩ =>
    ⟨p, F', S', h1, fun e => ⟨h2 e, t.left h4 h5 h6⟩, fun e => by obtain ⟨cc, U, i1, i2, i3, i4⟩ := h3 e; exact ⟨cc, U, i1, Bo.open t h4 h5 h6 i2 i3 i4⟩, h6.bel⟩
theorem open1 (K : RvC M C) (t : Bo M C N w g s h q L k D Z D2 Z2 F S G R T) (hk : K.ok w) :
    Calls Tryz.prog 21 #[.pointer (some ⟨s, 0, none⟩)] w fun e w' => ∃ p F' S', e = .returned (.tuple #[.pointer p, .int .i64 (Cn.openC Z D : Int)]) ∧
      (Cn.openC Z D ≠ 0 → p = none ∧ Bo M C N w' g s h q L k D (Z.load D) D2 Z2 F' S' G R T) ∧
      (Cn.openC Z D = 0 → ∃ cc U, p = some ⟨cc, 0, none⟩ ∧ Lb M C K N w' g s cc h q L k D (Z.load D) (Cn.openX Z D) (Cn.openH Z D) D2 Z2 F' S' U G R T) ∧ Below N w w' :=
  (K.opn N w s g D Z F S hk t.lz).mono fun e w' ⟨p, F', S', h1, h2, h3, h4, h5, h6⟩ =>
    ⟨p, F', S', h1, fun e => ⟨h2 e, t.left h4 h5 h6⟩, fun e => by obtain ⟨cc, U, i1, i2, i3, i4⟩ := h3 e; exact ⟨cc, U, i1, Bo.open t h4 h5 h6 i2 i3 i4⟩, h6.bel⟩
theorem or3_sub (t : Qs N w h q L k D Z G R T) : ∀ b, Or3 G (fun x => x = q) T b → Or3 G R T b := by
  rintro b (e | e | e)
  · exact .inl e
  · have e' : b = q := e
    exact .inr (.inl (by rw [e']; exact t.rz.at_))
  · exact .inr (.inr e)
/-- The document's own is opened, too. -/
theorem PostO.o (t : Lb M C K N w g s cc h q L k D Z x hd D2 Z2 F S U G R T) {v : Nat} {e : Ending} (p : PostO N h q k G R T w v D2' Z2' x2 hd2 e w') (hv : v = 0) :
    ∃ kc L' k' G' R' T' V, e = .returned (.tuple #[.pointer (some ⟨kc, 0, none⟩), .int .i64 (v : Int)]) ∧ k' ≤ k + 1 ∧ Po M C K N w' g s cc h q kc L' k' D Z x hd D2' Z2' x2 hd2 F S U G' R' T' V ∧ Below N w w' := by
  obtain ⟨kc, L', k', G', R', T', h1, h2, h3, h4, h5, h6, h7, h8⟩ := p
  obtain ⟨V, hQ, hV⟩ := h7 hv
  refine ⟨kc, L', k', G', R', T', V, h1, h2, ⟨t.lv.keep h5.size fun b hb hl => h5.same b hl fun hO => ?_, hQ, fun b hb e => ?_⟩, h5.bel⟩
  · rcases hb with e | e
    · have := (Qs.low t.qs hO).1; omega
    · exact t.ap b e (or3_sub t.qs b hO)
  · have hlt := (t.lv.lt b hb).2
    have old : Or3 G' R' T' b → False := fun e => by
      rcases h4.or b e with e | e
      · exact t.ap b hb e
      · omega
    rcases e with e | e
    · exact old e
    · rcases hV b e with e | e
      · exact old (.inr (.inl e))
      · omega
/-- Neither is. -/
theorem PostO.z (t : Bo M C N w g s h q L k D Z D2 Z2 F S G R T) {v : Nat} {e : Ending} (p : PostO N h q k G R T w v D2' Z2' x2 hd2 e w') (hv : v ≠ 0) :
    ∃ kc L' k' G' R' T', e = .returned (.tuple #[.pointer (some ⟨kc, 0, none⟩), .int .i64 (v : Int)]) ∧ k' ≤ k + 1 ∧ Pz M C N w' g s h q kc L' k' D Z D2' Z2' F S G' R' T' ∧ Below N w w' := by
  obtain ⟨kc, L', k', G', R', T', h1, h2, h3, h4, h5, h6, h7, h8⟩ := p
  obtain ⟨hB, hn⟩ := h8 hv
  refine ⟨kc, L', k', G', R', T', h1, h2, ⟨t.right h3 h4.or (h5.mono (or3_sub t.qs)), hB, Nat.le_trans (rk_loN t.qs.rk) h6, fun e => ?_, hn⟩, h5.bel⟩
  have := (t.lz.lt kc e).2
  omega
end
end Go.Proofs.YtnoflgkjdibblaaGreatDoor.S21

/-
  Both counters, apart: their disks move, both are dropped and slots laid anew; what a step costs; what holds between two steps of ReservePlays. No statement is proved here.
-/
namespace Go.Proofs.YtnoflgkjdibblaaGreatDoor.S21
set_option linter.unusedSimpArgs false
set_option linter.unusedVariables false
set_option maxRecDepth 4096
open Go.RowKit S19 S20

section
variable {M : DC} {C : SlC M} {K : RvC M C} {N : Nat} {w w' : World} {g s cc h q kc k k' : Nat} {L L' : Value} {D D' D2 D2' : Dk} {Z Z' Z2 Z2' : Sl} {x x' x2 x2' : Cn} {hd hd2 : List UInt8} {F S U G R T V F' S' U' G' R' T' : Nat → Prop}
/-- The counters are dropped. -/
theorem Po.bo (t : Po M C K N w g s cc h q kc L k D Z x hd D2 Z2 x2 hd2 F S U G R T V) : Bo M C N w g s h q L k D Z D2 Z2 F S G R T :=
  ⟨t.lv.lz, t.qc.qs, fun b hb e => t.ap b (hb.elim .inl fun e => .inr (.inl e)) (.inl e)⟩
theorem sub_disk {n : Nat} (hs : ∀ b, F' b → F b ∨ n ≤ b) : ∀ b, Or2 F' S b → Or2 F S b ∨ n ≤ b := fun b hb => hb.elim (fun e => (hs b e).imp .inl id) fun e => .inl (.inr e)
theorem sub_disk3 {n : Nat} (hs : ∀ b, F' b → F b ∨ n ≤ b) : ∀ b, Or3 F' S U b → Or3 F S U b ∨ n ≤ b := fun b hb => hb.elim (fun e => (hs b e).imp .inl id) fun e => .inl (.inr e)
/-- The landed disk has moved. -/
theorem Po.disk1 (t : Po M C K N w g s cc h q kc L k D Z x hd D2 Z2 x2 hd2 F S U G R T V) (hI : M.Is N w' g D' F') (hs : ∀ b, F' b → F b ∨ w.heap.size ≤ b) (m : Mv N F w w') (hl : D'.sure.length = D.sure.length) : Po M C K N w' g s cc h q kc L k D' Z x hd D2 Z2 x2 hd2 F' S U G R T V :=
  t.left (t.lv.under (t.lv.lz.disk hI hs m hl) (sub_disk hs) (m.mono fun b hb => .inl hb)) (sub_disk3 hs) (m.mono fun b hb => .inl hb)
/-- The document's own disk has moved. -/
theorem Qc.disk (t : Qc N w h q kc L k D Z x hd G S T V) (hR : Rk N w' h L D' G') (hs : ∀ b, G' b → G b ∨ w.heap.size ≤ b) (m : Mv N G w w') (hl : D'.sure.length = D.sure.length) : Qc N w' h q kc L k D' Z x hd G' S T V := by
  refine ⟨t.qs.disk hR hs m hl, t.rc.keep m.size fun b hb hlt => m.same b hlt fun hG => ?_, fun b hb e => ?_, t.ks⟩
  · rcases hb with e | e
    · have := (t.qs.lt b (.inl hG)).1; omega
    · exact t.kg b e (.inl hG)
  · rcases e with e | e
    · rcases hs b e with e | e
      · exact t.kg b hb (.inl e)
      · have := (t.rc.lt b hb).2; omega
    · exact t.kg b hb (.inr e)
theorem Po.disk2 (t : Po M C K N w g s cc h q kc L k D Z x hd D2 Z2 x2 hd2 F S U G R T V) (hR : Rk N w' h L D2' G') (hs : ∀ b, G' b → G b ∨ w.heap.size ≤ b) (m : Mv N G w w') (hl : D2'.sure.length = D2.sure.length) : Po M C K N w' g s cc h q kc L k D Z x hd D2' Z2 x2 hd2 F S U G' R T V :=
  t.right (t.qc.disk hR hs m hl) ⟨hs, fun _ e => .inl e, fun _ e => .inl e⟩ (m.mono fun b hb => .inl (.inl hb))
theorem Pz.disk1 (t : Pz M C N w g s h q kc L k D Z D2 Z2 F S G R T) (hI : M.Is N w' g D' F') (hs : ∀ b, F' b → F b ∨ w.heap.size ≤ b) (m : Mv N F w w') (hl : D'.sure.length = D.sure.length) : Pz M C N w' g s h q kc L k D' Z D2 Z2 F' S G R T :=
  ⟨t.bo.left (t.bo.lz.disk hI hs m hl) (sub_disk hs) (m.mono fun b hb => .inl hb), m.bk t.kb fun e => t.ka.1 (.inl e), t.kn, fun e => (sub_disk hs kc e).elim t.ka.1 fun e => by have := t.kb.lt; omega, t.ka.2⟩
theorem Pz.disk2 (t : Pz M C N w g s h q kc L k D Z D2 Z2 F S G R T) (hR : Rk N w' h L D2' G') (hs : ∀ b, G' b → G b ∨ w.heap.size ≤ b) (m : Mv N G w w') (hl : D2'.sure.length = D2.sure.length) : Pz M C N w' g s h q kc L k D Z D2' Z2 F S G' R T :=
  ⟨t.bo.right (t.bo.qs.disk hR hs m hl) (sub_disk3 hs) (m.mono fun b hb => .inl hb), m.bk t.kb fun e => t.ka.2 (.inl e), t.kn, t.ka.1, fun e => (sub_disk3 hs kc e).elim t.ka.2 fun e => by have := t.kb.lt; omega⟩
/-- Slots laid anew, on the landed side and on the document's. -/
theorem slots1 (t : Bo M C N w g s h q L k D Z D2 Z2 F S G R T) (hk : C.ok w) {first n : Nat} (hm : may D.sure.length (first : Int) (n : Int) = true) : Calls Tryz.prog 8 #[.pointer (some ⟨g, 0, none⟩), .int .i64 (first : Int), .int .i64 (n : Int)] w fun e w' =>
    ∃ s' F' S', e = .returned (.tuple #[.pointer (some ⟨s', 0, none⟩), .int .i64 0]) ∧ Bo M C N w' g s' h q L k D (Sl.new first n) D2 Z2 F' S' G R T ∧ Below N w w' :=
  (C.new N w g D F first n hk t.lz.is hm).mono fun e w' ⟨s', S', F', h1, h2, h3, h4, h5, h6, h7⟩ => ⟨s', F', S', h1, t.left ⟨h3, h2, h6, new_ok hm⟩ (fun b hb => hb.elim (fun e => (h5 b e).imp .inl id) fun e => .inr (h4 b e)) (h7.mono fun b hb => .inl hb), h7.bel⟩
theorem slots2 (t : Bo M C N w g s h q L k D Z D2 Z2 F S G R T) {first n : Nat} (hm : may D2.sure.length (first : Int) (n : Int) = true) : Calls Tryz.prog 9 #[.pointer (some ⟨h, 0, none⟩), .int .i64 (first : Int), .int .i64 (n : Int)] w fun e w' =>
    ∃ q' R', e = .returned (.pointer (some ⟨q', 0, none⟩)) ∧ Bo M C N w' g s h q' L k D Z D2 (Sl.new first n) F S G R' T ∧ Below w.heap.size w w' :=
  (rnew20_any N w (rk_loN t.qs.rk) h first n).mono fun e w' ⟨q', h1, h2, h3, h4⟩ => ⟨q', fun b => b = q', h1, t.right ⟨t.qs.rk.grow h4, h2, (t.qs.grow h4).ld, new_ok hm, fun b hG e => by have := (t.qs.rk.lt b hG).2; omega, t.qs.gt, fun b e hT => by have := (t.qs.ld.lt b hT).2; omega⟩ (fun b hb => by
    rcases hb with e | e | e
    · exact .inl (.inl e)
    · exact .inr (by omega)
    · exact .inl (.inr (.inr e))) (Mv.of (rk_loN t.qs.rk) h4), h4⟩
end
/-- What the calls cost, and what they leave. -/
theorem take_costs (x : Cn) (hd : List UInt8) (Z : Sl) (D : Dk) : (x.takeD hd Z D).cnt ≤ D.cnt + Z.n + 1 ∧ (x.takeD hd Z D).sure.length = D.sure.length ∧ (x.takeZ hd Z D).n = Z.n ∧ (x.takeZ hd Z D).first = Z.first := by
  unfold Cn.takeD Cn.takeZ
  split
  · exact ⟨saveD_cnt _ _ _, saveD_len _ _ _, save_n _ _ _⟩
  · exact ⟨by omega, rfl, rfl, rfl⟩
theorem ret_costs (x : Cn) (hd : List UInt8) (Z : Sl) (D : Dk) : (x.retD hd Z D).cnt ≤ D.cnt + Z.n + 1 ∧ (x.retD hd Z D).sure.length = D.sure.length ∧ (x.retZ hd Z D).n = Z.n ∧ (x.retZ hd Z D).first = Z.first := by
  unfold Cn.retD Cn.retZ
  split
  · exact ⟨by omega, rfl, rfl, rfl⟩
  · exact ⟨saveD_cnt _ _ _, saveD_len _ _ _, save_n _ _ _⟩
theorem new_costs (tot bat : Nat) (hd : List UInt8) (Z : Sl) (D : Dk) : (Cn.newD tot bat hd Z D).cnt ≤ D.cnt + Z.n + 1 ∧ (Cn.newD tot bat hd Z D).sure.length = D.sure.length ∧ (Cn.newZ tot bat hd Z D).n = Z.n ∧ (Cn.newZ tot bat hd Z D).first = Z.first := by
  have l := load_n Z D
  unfold Cn.newD Cn.newZ
  split
  · split
    · have h1 := saveD_cnt (Z.load D) D ((Cn.fresh tot bat).row hd)
      have h2 := save_n (Z.load D) D ((Cn.fresh tot bat).row hd)
      exact ⟨by omega, saveD_len _ _ _, by omega, by omega⟩
    · exact ⟨by omega, rfl, l⟩
  · exact ⟨by omega, rfl, rfl, rfl⟩
/-- Where the counters are: both open and alike, or neither. -/
def PlC (M : DC) (C : SlC M) (K : RvC M C) (N : Nat) (w : World) (g s h q kc : Nat) (cv : Value) (D : Dk) (Z : Sl) (k : Nat) : Prop :=
  (∃ cc L x hd F S U G R T V, cv = .pointer (some ⟨cc, 0, none⟩) ∧ x.Ok hd.length ∧ Po M C K N w g s cc h q kc L k D Z x hd D Z x hd F S U G R T V) ∨ (∃ L F S G R T, cv = .pointer none ∧ Pz M C N w g s h q kc L k D Z D Z F S G R T)
/-- What holds between two steps. -/
def PlJ (M : DC) (C : SlC M) (K : RvC M C) (N : Nat) (g h : Nat) (i : Nat) (sv ov cv kv : Value) (N0 w : World) : Prop :=
  ∃ (s q kc k : Nat) (D : Dk) (Z : Sl), sv = .pointer (some ⟨s, 0, none⟩) ∧ ov = .pointer (some ⟨q, 0, none⟩) ∧ kv = .pointer (some ⟨kc, 0, none⟩) ∧ PlC M C K N w g s h q kc cv D Z k ∧ D.cnt ≤ 10 * (i + 1) ∧ k ≤ i + 1 ∧ Z.n = 8 ∧ D.sure.length = 16 ∧ Below N N0 w
end Go.Proofs.YtnoflgkjdibblaaGreatDoor.S21

/-
  How the steps of layer 20's statements read, which came in. No statement is proved here.
-/
namespace Go.Proofs.YtnoflgkjdibblaaGreatDoor.S20
set_option linter.unusedSimpArgs false
set_option linter.unusedVariables false
set_option maxRecDepth 4096
open Go.ChangeShapes Go.WideShapes Go.ChangeAt Go.RowKit Go.Joins S19

/-- A step, as it came in. -/
structure AcW where
  kd : Int
  ii : Int
  ba : Option Addr
  bn : Nat
  bc : Nat
  b : List UInt8
  ca : Option Addr
  cn : Nat
  cc : Nat
  ch : List UInt8
  fa : Option Addr
  fn : Nat
  fc : Nat
  fs : List Int
  st : Int
instance : Inhabited AcW := ⟨⟨0, 0, none, 0, 0, [], none, 0, 0, [], none, 0, 0, [], 0⟩⟩
def AcW.cells (a : AcW) : List Value := [.int .i64 a.kd, .int .i64 a.ii, .slice a.ba a.bn a.bc, .slice a.ca a.cn a.cc, .slice a.fa a.fn a.fc, .int .i64 a.st]
structure AcW.Ok (W : World) (a : AcW) : Prop where
  b : Rd W a.ba a.bn a.bc a.b
  ch : Rd W a.ca a.cn a.cc a.ch
  fs : RI W .i64 a.fa a.fn a.fc a.fs
  hi : -9223372036854775808 ≤ a.ii ∧ a.ii < 9223372036854775808
/-- A row of steps. -/
structure RW (W : World) (A : Option Addr) (n c : Nat) (xs : List AcW) : Prop where
  len : xs.length = n
  cap : n ≤ c
  max : c ≤ maxLen
  nil : A = none → c = 0
  at_ : 0 < n → ∃ b off, A = some ⟨b, off, none⟩ ∧ b < W.heap.size ∧ ∀ j, j < n → (xs.getD j default).Ok W ∧ ∀ q, q < 6 → W.cell? ⟨b, off + j * 6 + q, none⟩ = (xs.getD j default).cells[q]?
end Go.Proofs.YtnoflgkjdibblaaGreatDoor.S20

/-
  How the arguments of layer 21's statements read, which came in: a counter, two rows. No statement is proved here.
-/
namespace Go.Proofs.YtnoflgkjdibblaaGreatDoor.S21
set_option linter.unusedSimpArgs false
set_option linter.unusedVariables false
set_option maxRecDepth 4096
open Go.ChangeShapes Go.WideShapes Go.ChangeAt Go.RowKit Go.Joins S19 S20

theorem bounds_u64' {n : Int} (h : (Lit.int .u64 n).wf = true) : 0 ≤ n ∧ n ≤ 18446744073709551615 := by
  simpa [Lit.wf, IntKind.min, IntKind.max, IntKind.signed, IntKind.bits] using h
theorem u64_of_trod {H : Type} {enc : TypeId × Value → H} {W : World} {n : Nat} {c : Value} {y : DataW H × List MemPlace} (h : DataW.trod enc Tryz.prog W 0 (fun _ => true) true n 22 [c] = some y) : ∃ k : Nat, c = .int .u64 (k : Int) ∧ k < 18446744073709551616 := by
  obtain ⟨a, e, _, wa⟩ := DataW.trod_int Tryz.underlying22 h
  simp at e
  subst e
  have := bounds_u64' wa
  exact ⟨a.toNat, by congr 1; omega, by omega⟩
end Go.Proofs.YtnoflgkjdibblaaGreatDoor.S21

/-
  How the steps and the shape of layer 21's second statement (ReservePlays) read, which came in; is a step too great? No statement is proved here.
-/
namespace Go.Proofs.YtnoflgkjdibblaaGreatDoor.S21
set_option linter.unusedSimpArgs false
set_option linter.unusedVariables false
set_option maxRecDepth 4096
open Go.ChangeShapes Go.WideShapes Go.ChangeAt Go.RowKit Go.Joins S19 S20

/-- A step, as it came in. -/
structure AcX where
  kd : Int
  ca : Option Addr
  cn : Nat
  cc : Nat
  ch : List UInt8
  fa : Option Addr
  fn : Nat
  fc : Nat
  fs : List Int
  st : Int
instance : Inhabited AcX := ⟨⟨0, none, 0, 0, [], none, 0, 0, [], 0⟩⟩
def AcX.cells (a : AcX) : List Value := [.int .i64 a.kd, .slice a.ca a.cn a.cc, .slice a.fa a.fn a.fc, .int .i64 a.st]
structure AcX.Ok (W : World) (a : AcX) : Prop where
  ch : Rd W a.ca a.cn a.cc a.ch
  fs : RI W .i64 a.fa a.fn a.fc a.fs
/-- A row of steps. -/
structure RX (W : World) (A : Option Addr) (n c : Nat) (xs : List AcX) : Prop where
  len : xs.length = n
  cap : n ≤ c
  max : c ≤ maxLen
  nil : A = none → c = 0
  at_ : 0 < n → ∃ b off, A = some ⟨b, off, none⟩ ∧ b < W.heap.size ∧ ∀ j, j < n → (xs.getD j default).Ok W ∧ ∀ q, q < 4 → W.cell? ⟨b, off + j * 4 + q, none⟩ = (xs.getD j default).cells[q]?
theorem trod_struct3' {H : Type} {enc : TypeId × Value → H} {P : Program} {w : World} {base : Nat} {spare : Nat → Bool} {held : Bool} {t : TypeId} {f0 f1 f2 : Field} {fuel : Nat} {cs : List Value} {x : DataW H × List MemPlace} (ht : P.underlying t = some (.struct #[f0, f1, f2])) (h : DataW.trod enc P w base spare held fuel t cs = some x) :
    ∃ y0 y1 y2 n, cs.length = P.cellsOf t ∧ DataW.trod enc P w base spare held n f0.type ((cs.drop f0.offset).take (P.cellsOf f0.type)) = some y0 ∧
      DataW.trod enc P w base spare held n f1.type ((cs.drop f1.offset).take (P.cellsOf f1.type)) = some y1 ∧ DataW.trod enc P w base spare held n f2.type ((cs.drop f2.offset).take (P.cellsOf f2.type)) = some y2 := by
  obtain ⟨xs, n, _, rfl, hl, hlen, hf⟩ := DataW.trod_struct ht h
  match xs, hlen with
  | [y0, y1, y2], _ => exact ⟨y0, y1, y2, n, hl, by simpa using hf 0 f0 rfl, by simpa using hf 1 f1 rfl, by simpa using hf 2 f2 rfl⟩
theorem act21_of_trod {H : Type} {enc : TypeId × Value → H} {W : World} {n : Nat} {cs : List Value} {y : DataW H × List MemPlace} (h : DataW.trod enc Tryz.prog W 0 (fun _ => true) true n 53 cs = some y) : ∃ a : AcX, cs = a.cells ∧ a.Ok W := by
  obtain ⟨y0, y1, y2, m, hl, h0, h1, h2⟩ := trod_struct3' Tryz.underlying53 h
  have e7 : Tryz.prog.cellsOf 53 = 4 := by kernel_rfl
  have ei : Tryz.prog.cellsOf 3 = 1 := by kernel_rfl
  have es : Tryz.prog.cellsOf 23 = 1 := by kernel_rfl
  have ez : Tryz.prog.cellsOf 49 = 1 := by kernel_rfl
  have ep : Tryz.prog.cellsOf 51 = 2 := by kernel_rfl
  rw [e7] at hl
  match cs, hl with
  | [c0, c3, c4, c5], _ =>
    have k0 : DataW.trod enc Tryz.prog W 0 (fun _ => true) true m 3 [c0] = some y0 := by simpa [ei] using h0
    have k3 : DataW.trod enc Tryz.prog W 0 (fun _ => true) true m 23 [c3] = some y1 := by simpa [es] using h1
    have k4 : DataW.trod enc Tryz.prog W 0 (fun _ => true) true m 51 [c4, c5] = some y2 := by simpa [ep] using h2
    obtain ⟨z0, z1, m', _, _, p0, p1⟩ := trod_struct2 Tryz.underlying51 k4
    have q0 : DataW.trod enc Tryz.prog W 0 (fun _ => true) true m' 49 [c4] = some z0 := by simpa [ez] using p0
    have q1 : DataW.trod enc Tryz.prog W 0 (fun _ => true) true m' 3 [c5] = some z1 := by simpa [ei] using p1
    obtain ⟨v0, rfl, _⟩ := i64_of_trod k0
    obtain ⟨v3, rfl, r3⟩ := row_of_trod k3
    obtain ⟨v5, rfl, r5⟩ := open_zi q0
    obtain ⟨v6, rfl, _⟩ := i64_of_trod q1
    exact ⟨⟨v0, v3.1, v3.2.1, v3.2.2.1, v3.2.2.2, v5.1, v5.2.1, v5.2.2.1, v5.2.2.2, v6⟩, rfl, r3, r5⟩
/-- A row of steps that came in. -/
theorem open_acts21 {H : Type} {enc : TypeId × Value → H} {W : World} {v : Value} {d : DataW H} {p : List MemPlace} {base : Nat}
    (hv : Value.okWide Tryz.prog W .any base 26 v) (h : DataW.Trod enc Tryz.prog W 0 (fun _ => true) true 26 v d p) :
    ∃ y : Option Addr × Nat × Nat × List AcX, v = .slice y.1 y.2.1 y.2.2.1 ∧ RX W y.1 y.2.1 y.2.2.1 y.2.2.2 := by
  obtain ⟨A, len, cap, rfl⟩ := okWide_slice Tryz.underlying26 hv
  obtain ⟨fuel, hf⟩ := h
  rcases Go.Deep.open_slice Tryz.underlying26 hf with ⟨hcs, _⟩ | ⟨a, l, c, m, n, D, Pl, hcs, _, hl, hm, hmm, _, hx⟩
  · simp [Value.cells] at hcs
    obtain ⟨rfl, rfl, rfl⟩ := hcs
    exact ⟨(none, 0, 0, []), rfl, ⟨rfl, Nat.le_refl _, by simp [maxLen], fun _ => rfl, fun h => absurd h (by simp)⟩⟩
  · simp [Value.cells] at hcs
    obtain ⟨rfl, rfl, rfl⟩ := hcs
    have hmc : m = cap := by simpa using hmm
    subst hmc
    have h6c : Tryz.prog.cellsOf 53 = 4 := by kernel_rfl
    rw [h6c] at hx
    obtain ⟨X, hX⟩ := Go.Deep.choose_lt (α := AcX) (p := fun i y => y.Ok W ∧ ∀ q, q < 4 → W.cell? ((a.add (i * 4)).add q) = y.cells[q]?) (fun i hi => by
      obtain ⟨cs', hc, ht⟩ := hx i hi
      obtain ⟨_, hlen, hat⟩ := World.cells?_some hc
      obtain ⟨y, e, hy⟩ := act21_of_trod ht
      refine ⟨y, hy, fun q hq => ?_⟩
      have := hat q hq
      rw [e] at this
      exact this)
    refine ⟨(some a, len, m, (List.range len).map X), rfl, ⟨by simp, hl, hm, (fun h => by cases h), fun hn => ?_⟩⟩
    have hn' : 0 < len := hn
    obtain ⟨b, off, spot⟩ := a
    have h0 := (hX 0 (by omega)).2 0 (by omega)
    rw [Go.Deep.add_add] at h0
    have hspot : spot = none := by simpa [Addr.add] using World.cell?_spot (h0.trans (by rfl))
    subst hspot
    refine ⟨b, off, rfl, World.block_lt_of_cell? W _ (h0.trans (by rfl)), fun j hj => ?_⟩
    have hj' : j < len := hj
    have e : ((List.range len).map X).getD j default = X j := by simp [List.getD, hj']
    rw [e]
    refine ⟨(hX j (by omega)).1, fun q hq => ?_⟩
    have h1 := (hX j (by omega)).2 q hq
    rw [Go.Deep.add_add, Go.WideShapes.add_plain] at h1
    rw [Nat.add_assoc]
    exact h1
/-- A shape that came in. -/
theorem open_shape {H : Type} {enc : TypeId × Value → H} {W : World} {v : Value} {d : DataW H} {p : List MemPlace} {base : Nat}
    (hv : Value.okWide Tryz.prog W .any base 25 v) (h : DataW.Trod enc Tryz.prog W 0 (fun _ => true) true 25 v d p) :
    ∃ y : Nat × Nat × Option Addr × Nat × Nat × List UInt8, v = .agg #[.int .u64 (y.1 : Int), .int .u64 (y.2.1 : Int), .slice y.2.2.1 y.2.2.2.1 y.2.2.2.2.1] ∧ y.1 < 18446744073709551616 ∧ y.2.1 < 18446744073709551616 ∧ Rd W y.2.2.1 y.2.2.2.1 y.2.2.2.2.1 y.2.2.2.2.2 := by
  obtain ⟨cs, rfl, hs⟩ := okWide_struct Tryz.underlying25 hv
  obtain ⟨fuel, hf⟩ := h
  obtain ⟨y0, y1, y2, m, hl, h0, h1, h2⟩ := trod_struct3' Tryz.underlying25 hf
  have hcs : ((Value.agg cs).cells).toList = cs.toList := rfl
  rw [hcs] at hl h0 h1 h2
  have e3 : Tryz.prog.cellsOf 25 = 3 := by kernel_rfl
  have eu : Tryz.prog.cellsOf 22 = 1 := by kernel_rfl
  have es : Tryz.prog.cellsOf 23 = 1 := by kernel_rfl
  rw [e3] at hl
  obtain ⟨l, hl2⟩ : ∃ l, l = cs.toList := ⟨_, rfl⟩
  rw [← hl2] at hl h0 h1 h2
  match l, hl with
  | [c0, c1, c2], _ =>
    have k0 : DataW.trod enc Tryz.prog W 0 (fun _ => true) true m 22 [c0] = some y0 := by simpa [eu] using h0
    have k1 : DataW.trod enc Tryz.prog W 0 (fun _ => true) true m 22 [c1] = some y1 := by simpa [eu] using h1
    have k2 : DataW.trod enc Tryz.prog W 0 (fun _ => true) true m 23 [c2] = some y2 := by simpa [es] using h2
    obtain ⟨v0, rfl, l0⟩ := u64_of_trod k0
    obtain ⟨v1, rfl, l1⟩ := u64_of_trod k1
    obtain ⟨v2, rfl, r2⟩ := row_of_trod k2
    exact ⟨(v0, v1, v2.1, v2.2.1, v2.2.2.1, v2.2.2.2), by rw [show cs = #[.int .u64 (v0 : Int), .int .u64 (v1 : Int), .slice v2.1 v2.2.1 v2.2.2.1] from Array.toList_inj.1 hl2.symm], l0, l1, r2⟩
def bigX (cn fn : Nat) : Bool := decide (300 < cn) || decide (300 < fn)
theorem big21_any (kd : Int) (Ac : Option Addr) (cn cc : Nat) (Af : Option Addr) (fn fc : Nat) (st : Int) (w : World) :
    Calls Tryz.prog 12 #[.agg #[.int .i64 kd, .slice Ac cn cc, .slice Af fn fc, .int .i64 st]] w fun e w' => e = .returned (.bool (bigX cn fn)) ∧ Below w.heap.size w w' := by
  obtain ⟨g, hg⟩ : ∃ g, w.heap.size = g := ⟨_, rfl⟩
  obtain ⟨w0, hw0⟩ : ∃ w0, w.alloc (.cells #[.int .i64 kd, .slice Ac cn cc, .slice Af fn fc, .int .i64 st] 53) = w0 := ⟨_, rfl⟩
  have T0 := show Bk w0 g 53 #[.int .i64 kd, .slice Ac cn cc, .slice Af fn fc, .int .i64 st] by rw [← hw0]; exact Bk.newAt _ _ _ _ hg
  have B0 := Lib.hid (show Below w.heap.size w w0 by rw [← hw0]; exact (Below.refl _ _).alloc (Nat.le_refl _) _)
  have k3 : w0.cell? ⟨g, 1, none⟩ = some (.slice Ac cn cc) := T0.cell 1
  have k4 : w0.cell? ⟨g, 2, none⟩ = some (.slice Af fn fc) := T0.cell 2
  obtain ⟨r, hr⟩ : ∃ r, r = decide ((300 : Int) < (cn : Int)) := ⟨_, rfl⟩
  obtain ⟨t, ht⟩ : ∃ t, t = decide ((300 : Int) < (fn : Int)) := ⟨_, rfl⟩
  have HF := Lib.hid (show bigX cn fn = (r || t) by
    rw [hr, ht]
    unfold bigX
    rw [Bool.eq_iff_iff]
    simp
    omega)
  replace hr := hr.symm
  replace ht := ht.symm
  clear T0
  cases r <;> cases t <;>
  · go_enter Tryz.func12, Tryz.ntmps12
    go_wp2
    go_ret
    exact ⟨by rw [HF.out]; rfl, B0.out⟩
end Go.Proofs.YtnoflgkjdibblaaGreatDoor.S21

/-
  The walk of layer 21's second statement (ReservePlays): its beginning. No statement is proved here.
-/
namespace Go.Proofs.YtnoflgkjdibblaaGreatDoor.S21
set_option linter.unusedSimpArgs false
set_option linter.unusedVariables false
set_option maxRecDepth 4096
open Go.RowKit S19 S20

section
variable {M : DC} {C : SlC M} {K : RvC M C} {N : Nat} {X : World} {g s h : Nat} {F S G : Nat → Prop}
theorem start2 (hI : M.Is N X g aD0 F) (hN : N ≤ X.heap.size) : Calls Tryz.prog 7 #[.int .i64 16] X fun e w' => ∃ h G, e = .returned (.pointer (some ⟨h, 0, none⟩)) ∧ (M.Is N w' g aD0 F ∧ Rk N w' h (.slice none 0 0) aD0 G ∧ ∀ b, F b → ¬ G b) ∧ Below X.heap.size X w' :=
  (rnewD_any N X 16 hN (by omega) (by omega)).mono fun e w' ⟨h, G, h1, h2, h3, h4⟩ => ⟨h, G, h1, ⟨M.keep hI h4.size (fun b _ hl => h4.block b hl), h2, fun b q1 q2 => by have := (M.lt hI b q1).2; have := h3 b q2; omega⟩, h4⟩
theorem start3 (K : RvC M C) (hk : K.ok X) (hI : M.Is N X g aD0 F) (hR : Rk N X h (.slice none 0 0) aD0 G) (hd : ∀ b, F b → ¬ G b) : Calls Tryz.prog 8 #[.pointer (some ⟨g, 0, none⟩), .int .i64 0, .int .i64 8] X fun e w' => ∃ s F' S', e = .returned (.tuple #[.pointer (some ⟨s, 0, none⟩), .int .i64 0]) ∧ (Lz M C N w' g s aD0 aZ0 F' S' ∧ Rk N w' h (.slice none 0 0) aD0 G ∧ ∀ b, Or2 F' S' b → ¬ G b) ∧ Below N X w' :=
  (made_slots K hk hI (by decide)).mono fun e w' ⟨s, F', S', h1, h2, h3, h4⟩ => ⟨s, F', S', h1, ⟨h2, hR.keep h4.size (fun b hb hl => h4.same b hl fun hF => by
    rcases hb with e | e
    · have := (M.lt hI b hF).1; omega
    · exact hd b hF e), fun b hb hG => by
    rcases h3 b hb with q | q
    · exact hd b q hG
    · have := (hR.lt b hG).2; omega⟩, h4.bel⟩
theorem start4 (hN : N ≤ X.heap.size) (hI : Lz M C N X g s aD0 aZ0 F S) (hR : Rk N X h (.slice none 0 0) aD0 G) (hd : ∀ b, Or2 F S b → ¬ G b) : Calls Tryz.prog 9 #[.pointer (some ⟨h, 0, none⟩), .int .i64 0, .int .i64 8] X fun e w' => ∃ q, e = .returned (.pointer (some ⟨q, 0, none⟩)) ∧ (∃ G R T, Bo M C N w' g s h q (.slice none 0 0) 0 aD0 aZ0 aD0 aZ0 F S G R T) ∧ Below X.heap.size X w' :=
  (rnew20_any N X hN h 0 8).mono fun e w' ⟨q, h1, h2, h3, h4⟩ => ⟨q, h1, ⟨G, fun b => b = q, fun _ => False, hI.grow h4, ⟨hR.grow h4, h2, Ld.nil N w', hI.zo, fun b hG e => by have := (hR.lt b hG).2; omega, fun b _ e => e, fun b _ e => e⟩, fun b hb hO => by
    rcases hO with e | e | e
    · exact hd b hb e
    · have := (hI.lt b hb).2; omega
    · exact e⟩, h4⟩
end
/-- The two counters are made: what holds ahead of the first step. -/
theorem start5 {M : DC} {C : SlC M} (K : RvC M C) {N : Nat} {X : World} {g s h q k : Nat} {L : Value} {D : Dk} {Z : Sl} {F S G R T : Nat → Prop} (t : Bo M C N X g s h q L k D Z D Z F S G R T) (hk : ∀ Y, Below N X Y → K.ok Y) {A : Option Addr} {n c : Nat} {hd : List UInt8} (hr : ∀ Y, Below N X Y → Rd Y A n c hd) (hA : ∀ a, 0 < n → A = some a → a.block < N) {tot bat : Nat} (ht : tot < 18446744073709551616) (hb : bat < 18446744073709551616) (hc : D.cnt < 1099511600000) (hkk : k < 1000000) (hn : n ≤ 100000) :
    Calls Tryz.prog 10 #[.pointer (some ⟨s, 0, none⟩), .slice A n c, .int .u64 (tot : Int), .int .u64 (bat : Int)] X fun e w' => ∃ p, e = .returned (.tuple #[.pointer p, .int .i64 (Cn.newC tot bat hd Z D : Int)]) ∧ Below N X w' ∧
      ∀ Y, Below w'.heap.size w' Y → Calls Tryz.prog 11 #[.pointer (some ⟨q, 0, none⟩), .slice A n c, .int .u64 (tot : Int), .int .u64 (bat : Int)] Y fun e w'' => ∃ kc k', e = .returned (.tuple #[.pointer (some ⟨kc, 0, none⟩), .int .i64 (Cn.newC tot bat hd Z D : Int)]) ∧ k' ≤ k + 1 ∧ PlC M C K N w'' g s h q kc (.pointer p) (Cn.newD tot bat hd Z D) (Cn.newZ tot bat hd Z D) k' ∧ Below N Y w'' := by
  refine (made1 K t hk (hr X (Below.refl _ _)) hA ht hb hc hn).mono ?_
  rintro e w' ⟨p, F', S', h1, h2, h3, h4⟩
  refine ⟨p, h1, h4, fun Y hY => ?_⟩
  have hrY : Rd Y A n c hd := hr Y (h4.trans (hY.mono (Nat.le_trans (rk_loN t.qs.rk) h4.size)))
  by_cases z : Cn.newC tot bat hd Z D = 0
  · obtain ⟨cc, U, rfl, hL⟩ := h3 z
    have hL' := hL.grow hY
    refine (rnew21_any N Y h q L k D Z G R T hL'.qs A n c hd hrY hA tot bat ht hb (by omega) hkk).mono fun e w'' p => ?_
    obtain ⟨kc, L', k', G', R', T', V, q1, q2, q3, q4⟩ := PostO.o hL' p z
    refine ⟨kc, k', q1, q2, .inl ⟨cc, L', _, hd, F', S', U, G', R', T', V, rfl, fresh_ok' z, q3⟩, q4⟩
  · obtain ⟨rfl, hB⟩ := h2 z
    have hB' := hB.grow hY
    refine (rnew21_any N Y h q L k D Z G R T hB'.qs A n c hd hrY hA tot bat ht hb (by omega) hkk).mono fun e w'' p => ?_
    obtain ⟨kc, L', k', G', R', T', q1, q2, q3, q4⟩ := PostO.z hB' p z
    exact ⟨kc, k', q1, q2, .inr ⟨L', F', S', G', R', T', rfl, q3⟩, q4⟩
where
  fresh_ok' {tot bat : Nat} {hd : List UInt8} {Z : Sl} {D : Dk} (z : Cn.newC tot bat hd Z D = 0) : (Cn.fresh tot bat).Ok hd.length := by
    unfold Cn.newC at z
    split at z
    · rename_i g; exact Cn.fresh_ok g
    · omega
end Go.Proofs.YtnoflgkjdibblaaGreatDoor.S21
