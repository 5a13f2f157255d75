/-
  Texts put together: SlM, ReM, RvWc, RvWBytes, ArrZ, RvB, RvC, RvD, SlL4, RvE, RvWAll. No statement is proved here.
-/
import Derived.Test.YtnoflgkjdibblaaDoorWa23
import Derived.Test.YtnoflgkjdibblaaDoorWa27
import Derived.Test.YtnoflgkjdibblaaDoorWa28
import Derived.Test.YtnoflgkjdibblaaDoorWa19
import Derived.Test.YtnoflgkjdibblaaDoorWa20
import Derived.Test.YtnoflgkjdibblaaDoorWa08
import Derived.Test.YtnoflgkjdibblaaDoorWa15
import Derived.Test.YtnoflgkjdibblaaDoorWa04
import Derived.Lib.LaidU8
import Derived.Lay
import Derived.SevenTiedAt
import Derived.Test.YtnoflgkjdibblaaDoorTie
import Derived.Test.YtnoflgkjdibblaaDoorWa12

/-
  The contracts of the landed packages disk and slots as one.
-/
namespace Go.Proofs.YtnoflgkjdibblaaDoor.S20
open Go.RowKit S19
/-- What the calls of the landed disk, and of the landed slots, do. -/
def M0 : DC := D0
def C0 : SlC M0 where
  ok := fun w => S2.GOk w
  bel := fun h hb => h.below (Nat.le_refl _) hb
  okM := fun _ => trivial
  Is := Sz
  lt := fun t => t.lt
  keep := fun t hs hk => t.keep hs fun b hb hl => hk b (.inr hb) hl
  room := fun w n _ _ _ => (room_any n w).mono fun _ _ h => ⟨h.1, h.2 ▸ Below.refl _ _⟩
  new := fun N w g D F first n _ tk hm => snew_any N w g D F first n tk hm
  newNot := fun N w g D F first n _ _ _ _ _ tk hm => snewNot_any N w g D F first n tk hm
  now := fun N w s g Z S _ t => (snow_any N w s g Z S t).mono fun _ _ ⟨A, c, h1, h2, h3, h4⟩ => ⟨A, c, h1, h2, fun a _ h => h3 a h, t.grow h4, Mv.of (Nat.le_trans t.sz.2 (Nat.le_of_lt t.sz.1)) h4⟩
  load := fun N w s g D Z F S hg tk ts hFS zo => by
    cases ho : D.off with
    | true => exact load_off N w s g D Z F S tk ts hFS zo ho
    | false => exact load_on N w s g D Z F S hg tk ts hFS zo ho
  save := fun N w s g D Z F S A n c b hg tk ts hFS zo hr hap hc => save_any N w s g D Z F S A n c b hg tk ts hFS zo hr hap hc
end Go.Proofs.YtnoflgkjdibblaaDoor.S20

/-
  The contracts of the landed package reserve as one.
-/
namespace Go.Proofs.YtnoflgkjdibblaaDoor.S21
open Go.RowKit S19 S20
theorem c0_lo {N : Nat} {w : World} {s g : Nat} {Z : Sl} {S : Nat → Prop} (t : C0.Is N w s g Z S) : N ≤ w.heap.size := by
  have q : Sz N w s g Z S := t
  exact Nat.le_trans q.sz.2 (Nat.le_of_lt q.sz.1)
theorem or3_of {F S R : Nat → Prop} {F' S' : Nat → Prop} {n : Nat} (h : ∀ b, Or2 F' S' b → Or2 F S b ∨ n ≤ b) : ∀ b, Or3 F' S' R b → Or3 F S R b ∨ n ≤ b := fun b hb => by
  rcases hb with e | e | e
  · exact (h b (.inl e)).imp (fun e => e.elim .inl fun e => .inr (.inl e)) id
  · exact (h b (.inr e)).imp (fun e => e.elim .inl fun e => .inr (.inl e)) id
  · exact .inl (.inr (.inr e))
/-- What the calls of the landed reserve do. -/
def K0 : RvC M0 C0 where
  ok := fun w => C0.ok w
  bel := fun h hb => C0.bel h hb
  okC := fun h => h
  Is := Ki
  lt := fun t => t.lt
  keep := fun t hs hk => t.keep hs fun b hb hl => hk b (.inr hb) hl
  bytes := fun w x A n c h _ hx hr => lbytesX_any w x A n c h hx hr
  read := fun w A n c b _ hr hn => (lread_any A n c b w hr hn).mono fun e w' ⟨A', c', h1, h2, _, h4⟩ => ⟨A', c', h1, h2, h4⟩
  new := fun N w s g D Z F S A n c h tot bat hk t hr _ hc ht hb hn => lnew_any M0 C0 N w s g D Z F S A n c h tot bat (c0_lo t.sl) hk t hr (by omega) ht hb hn
  opn := fun N w s g D Z F S hk t => lopen_any M0 C0 N w s g D Z F S (c0_lo t.sl) hk t
  take := fun N w cc s g x h D Z F S R hk t r ap ho hc => (ltake_any M0 C0 N w cc g s x h D Z F S R (fun X hX => C0.bel hk hX) t r ap ho (by omega)).mono fun e w' ⟨h1, F', S', h2, h3, h4, h5, h6⟩ => ⟨F', S', R, h1, h2, h3, h4, or3_of h5, h6⟩
  head := fun N w cc s x h R _ r => lhead_any N w cc s x h R r
  state := fun N w cc s x h R _ r => lstate_any N w cc s x h R r
end Go.Proofs.YtnoflgkjdibblaaDoor.S21

/-
  How a byte's whole number reads. No statement is proved here.
-/
namespace Go.Proofs.YtnoflgkjdibblaaDoor.S21
set_option linter.unusedSimpArgs false
set_option linter.unusedVariables false
theorem nat_of_b21 {n : Int} (h : (Lit.int .u8 n).wf = true) : ∃ m : Nat, n = (m : Int) ∧ m < 256 := by
  have : 0 ≤ n ∧ n ≤ 255 := by simpa [Lit.wf, IntKind.min, IntKind.max, IntKind.signed, IntKind.bits] using h
  exact ⟨n.toNat, by omega, by omega⟩
end Go.Proofs.YtnoflgkjdibblaaDoor.S21

/-
  The walk of one statement of layer 21, as its frame calls it.
-/
namespace Go.Proofs.YtnoflgkjdibblaaDoor.S21
set_option linter.unusedSimpArgs false
set_option linter.unusedVariables false
set_option maxRecDepth 4096
open Go.ChangeShapes Go.WideShapes Go.ChangeAt Go.RowKit Go.Joins S19 S20
theorem reserveBytes_frame (W : World) (hk : C0.ok W) (v : Value) (x : Cn) (o : v = .agg x.cells ∧ x.Fit) (A : Option Addr) (n c : Nat) (h : List UInt8) (hr : Rd W A n c h) (B : Option Addr) (m d : Nat) (b : List UInt8) (hs : Rd W B m d b) :
    Calls Tryd.prog 3 #[v, .slice A n c, .slice B m d] W fun e w' => e = .returned (.bool true) ∧ Below W.heap.size W w' := by
  obtain ⟨rfl, fx⟩ := o
  exact reserveBytes_walk M0 C0 K0 W hk x fx A B n c m d h b hr hs
end Go.Proofs.YtnoflgkjdibblaaDoor.S21

/-
  What the listed variables hold: the constants of layer 2, for the statements of layer 20.
-/
namespace Go.Proofs.YtnoflgkjdibblaaDoor
set_option linter.unusedSimpArgs false
set_option linter.unusedVariables false
open Go.ChangeShapes Go.WideShapes Go.ChangeAt Go.RowKit

/-- What the rows list. -/
abbrev laidL : List (String × DataW Unit) := [("tearoff/sha2.start", Rows.laid_tearoff_sha2_start), ("tearoff/sha2.rounds", Rows.laid_tearoff_sha2_rounds)]
theorem cells_of_reads {P : Program} {W : World} {name : String} {k : IntKind} {zs : List Int} {g : Nat} {t e : TypeId} {n : Nat} (h : Lib.VarReads P W name (Lib.tabData k zs))
    (hg : P.globalNamed name = some g) (hty : (P.globals[g]?).map (·.type) = some t) (ht : P.underlying t = some (.array n e)) (he : P.underlying e = some (.int k)) (hce : P.cellsOf e = 1) (hct : P.cellsOf t = n) :
    ∀ i, i < zs.length → W.cell? ⟨g, i, none⟩ = some (.int k (zs.getD i 0)) := by
  obtain ⟨g', t', cs, fuel, p, h1, h2, h3, h4⟩ := h
  obtain rfl := Option.some.inj (hg.symm.trans h1)
  obtain rfl := Option.some.inj (hty.symm.trans h2)
  have e := Lib.cells_of_tab ht he hce hct h4
  have hT : Lib.TabIs P W name k zs := by
    unfold Lib.TabIs
    rw [h3, ← e]
  exact hT.cell hg
theorem kN_word2 : ∀ z ∈ S2.kN, ((UInt32.ofNat z.toNat).toNat : Int) = z := by decide +kernel
theorem kN_get (i : Nat) (h : i < 64) : Value.int .u32 (S2.kN.getD i 0) = .int .u32 ((S2.kT.getD i 0).toNat : Int) := by
  have h1 : i < S2.kN.length := h
  have := kN_word2 S2.kN[i] (List.getElem_mem h1)
  simp only [S2.kT, List.getD, List.getElem?_map, List.getElem?_eq_getElem h1, Option.map_some, Option.getD_some]
  rw [this]
theorem gok_of_laid {W : World} (h : laidMetH Tryd.prog laidL W) : S2.GOk W := by
  rw [MakeChecks.laidMetH_plain _ _ _ (by kernel_rfl)] at h
  have h1 : Lib.VarReads Tryd.prog W "tearoff/sha2.start" (Lib.tabData .u32 [1779033703, 3144134277, 1013904242, 2773480762, 1359893119, 2600822924, 528734635, 1541459225]) := Lib.laidMet.reads h (.head _)
  have h2 : Lib.VarReads Tryd.prog W "tearoff/sha2.rounds" (Lib.tabData .u32 S2.kN) := Lib.laidMet.reads h (.tail _ (.head _))
  refine ⟨fun i hi => ?_, fun i hi => ?_⟩
  · rw [← kN_get i hi]
    exact cells_of_reads (g := 1) (t := 132) h2 (by kernel_rfl) (by kernel_rfl) Tryd.underlying132 Tryd.underlying125 (by kernel_rfl) (by kernel_rfl) i hi
  · have := cells_of_reads (g := 0) (t := 126) h1 (by kernel_rfl) (by kernel_rfl) Tryd.underlying126 Tryd.underlying125 (by kernel_rfl) (by kernel_rfl) i hi
    refine this.trans ?_
    match i, hi with
    | 0, _ | 1, _ | 2, _ | 3, _ | 4, _ | 5, _ | 6, _ | 7, _ => rfl
end Go.Proofs.YtnoflgkjdibblaaDoor

/-
  A counter at rest, on a disk with which nothing fails, in plain words: a number is taken, the power goes and comes, it is opened anew. No statement is proved here.
-/
namespace Go.Proofs.YtnoflgkjdibblaaDoor.S21
set_option linter.unusedSimpArgs false
set_option linter.unusedVariables false
set_option maxRecDepth 8192
open S19 S20

/-- A counter that isn't retired, with its head h, over slots and a disk at rest: what was saved last is what it is. -/
structure At (x : Cn) (h : List UInt8) (Z : Sl) (D : Dk) : Prop where
  fine : Fine Z D
  first : Z.first = 0
  n : Z.n = 8
  ok : x.Ok h.length
  live : x.gone = false
  there : ∀ Y : Sl, Y.first = 0 → Y.n = 8 → Y.loadC D = 0 ∧ Y.load D = Z ∧ Y.loadB D = x.row h
theorem Cn.Ok.head {x : Cn} {n : Nat} (h : x.Ok n) : n ≤ 200 := by have := h.may; unfold Cn.May at this; omega
theorem At.new {tot bat : Nat} {h : List UInt8} (m : (Cn.fresh tot bat).May h.length) : ∃ Z D, Cn.newC tot bat h aZ0 aD0 = 0 ∧ Cn.newZ tot bat h aZ0 aD0 = Z ∧ Cn.newD tot bat h aZ0 aD0 = D ∧ At (Cn.fresh tot bat) h Z D ∧ Z.num = 1 ∧ D.cnt = 9 := by
  have f0 : Fine aZ0 aD0 := Fine.new (by omega) (by omega) (by omega)
  obtain ⟨l1, l2⟩ := load_new (k := 16) (Z := aZ0) (by show 0 + 2 * 8 ≤ 16; omega) rfl rfl rfl
  have l1' : aZ0.loadC aD0 = 11 := l1
  have l2' : aZ0.load aD0 = aZ0 := l2
  have z1 : aZ0.n = 8 := rfl
  have hl : h.length ≤ 200 := by unfold Cn.May at m; omega
  obtain ⟨Z1, D1, p1, p2, p3, f1, a1, b1, d1, c1, o1⟩ := f0.next (b := (Cn.fresh tot bat).row h) (Fine.row_fits z1 _ hl) (by show 0 + 1 < _; omega)
  refine ⟨Z1, D1, ?_, ?_, ?_, ⟨f1, d1, a1, Cn.fresh_ok m, rfl, fun Y h1 h2 => o1 Y ⟨h1, h2⟩⟩, b1, c1⟩
  · rw [Cn.newC, if_pos m, if_neg (by rw [l1']; omega), if_pos l1', l2']; exact p3
  · rw [Cn.newZ, if_pos m, if_pos l1', l2']; exact p1
  · rw [Cn.newD, if_pos m, if_pos l1', l2']; exact p2
section
variable {x : Cn} {h : List UInt8} {Z : Sl} {D : Dk}
/-- None is left. -/
theorem At.out (a : At x h Z D) (q : x.tot ≤ x.nxt) : x.takeC h Z D = 9 ∧ x.takeN h Z D = 0 ∧ x.take h Z D = x ∧ x.takeZ h Z D = Z ∧ x.takeD h Z D = D := by
  have hl := a.live
  have e : x.takeC h Z D = 9 := by rw [Cn.takeC, if_neg (by rw [hl]; simp), if_pos q]
  have m : x.must = false := by simp [Cn.must]; omega
  refine ⟨e, by rw [Cn.takeN, e]; rfl, by rw [Cn.take, e]; rfl, by rw [Cn.takeZ, m]; rfl, by rw [Cn.takeD, m]; rfl⟩
/-- One that is reserved is taken. -/
theorem At.one (a : At x h Z D) (q : x.nxt < x.res) : x.takeC h Z D = 0 ∧ x.takeN h Z D = x.nxt ∧ x.take h Z D = x.next ∧ x.takeZ h Z D = Z ∧ x.takeD h Z D = D ∧ At x.next h Z D := by
  have hl := a.live
  have hm := a.ok.may
  unfold Cn.May at hm
  have e : x.takeC h Z D = 0 := by rw [Cn.takeC, if_neg (by rw [hl]; simp), if_neg (by omega), if_neg (by omega)]
  have m : x.must = false := by simp [Cn.must]; omega
  refine ⟨e, by rw [Cn.takeN, e]; rfl, by rw [Cn.take, e, m]; rfl, by rw [Cn.takeZ, m]; rfl, by rw [Cn.takeD, m]; rfl, ⟨a.fine, a.first, a.n, ⟨a.ok.may, q⟩, a.live, a.there⟩⟩
/-- A batch more is reserved, and one is taken. -/
theorem At.more (a : At x h Z D) (q : x.res ≤ x.nxt) (q2 : x.nxt < x.tot) (hn : Z.num + 1 < 18446744073709551616) : ∃ Z' D', x.takeC h Z D = 0 ∧ x.takeN h Z D = x.nxt ∧ x.take h Z D = x.more.next ∧ x.takeZ h Z D = Z' ∧ x.takeD h Z D = D' ∧ At x.more.next h Z' D' ∧ Z'.num = Z.num + 1 ∧ D'.cnt = D.cnt + 9 := by
  have hl := a.live
  have hm := a.ok.may
  obtain ⟨Z1, D1, p1, p2, p3, f1, a1, b1, d1, c1, o1⟩ := a.fine.next (b := x.more.row h) (Fine.row_fits a.n _ a.ok.head) hn
  have e : x.takeC h Z D = 0 := by rw [Cn.takeC, if_neg (by rw [hl]; simp), if_neg (by omega), if_pos q]; exact p3
  have m : x.must = true := by simp [Cn.must, hl]; omega
  refine ⟨Z1, D1, e, by rw [Cn.takeN, e]; rfl, by rw [Cn.take, e, m]; rfl, by rw [Cn.takeZ, m]; exact p1, by rw [Cn.takeD, m]; exact p2, ⟨f1, d1.trans a.first, a1.trans a.n, ⟨Cn.more_may hm, ?_⟩, a.live, fun Y h1 h2 => o1 Y ⟨h1.trans a.first.symm, h2.trans a.n.symm⟩⟩, b1, by rw [c1, a.n]⟩
  unfold Cn.May at hm
  have hle := a.ok.le
  show x.nxt + 1 ≤ (if x.tot < x.res + x.bat then x.tot else x.res + x.bat)
  split <;> omega
/-- The power goes and comes, with no plan. -/
theorem At.up (a : At x h Z D) (ch : List UInt8) : D.up ch [] 0 = { D with cnt := 0 } ∧ At x h Z { D with cnt := 0 } := by
  have hc := a.fine.calm
  have hp := a.fine.pend
  have ha : ∀ (Y : Sl) i, Y.area { D with cnt := 0 } i = Y.area D i := fun Y i => areaK_same Y.n fun j _ => rfl
  have hs : ∀ Y : Sl, Y.seen { D with cnt := 0 } = Y.seen D := fun Y => by
    unfold Sl.seen Sl.look
    rw [ha, ha]
  have hC : ∀ Y : Sl, Y.loadC { D with cnt := 0 } = Y.loadC D := fun Y => by
    unfold Sl.loadC
    rw [hs, ha, ha]
  have hL : ∀ Y : Sl, Y.load { D with cnt := 0 } = Y.load D := fun Y => by
    unfold Sl.load
    rw [hs]
  have hB : ∀ Y : Sl, Y.loadB { D with cnt := 0 } = Y.loadB D := fun Y => by
    unfold Sl.loadB
    rw [hC, hL]
  refine ⟨?_, ⟨⟨⟨hc.off, hc.stop, hc.fails⟩, hp, ⟨a.fine.ok.one, a.fine.ok.most, a.fine.ok.fits, a.fine.ok.at_, a.fine.ok.num⟩, by rw [ha]; exact a.fine.low⟩, a.first, a.n, a.ok, a.live, fun Y h1 h2 => by rw [hC, hL, hB]; exact a.there Y h1 h2⟩⟩
  cases D
  have h1 := hc.off
  have h2 := hc.stop
  have h3 := hc.fails
  simp only at h1 h2 h3 hp
  subst h1 h2 h3 hp
  rfl
/-- It is opened anew. -/
theorem At.opn (a : At x h Z D) (Y : Sl) (h1 : Y.first = 0) (h2 : Y.n = 8) : Cn.openC Y D = 0 ∧ Cn.openX Y D = { x with nxt := x.res } ∧ Cn.openH Y D = h ∧ Y.load D = Z ∧ At { x with nxt := x.res } h Z D := by
  obtain ⟨u1, u2, u3⟩ := a.there Y h1 h2
  have fx := a.ok.fit
  refine ⟨by rw [Cn.openC, if_pos u1, u3]; exact Cn.read_row x h fx a.ok.may, by rw [Cn.openX, u3, Cn.ofB_row x h fx], by rw [Cn.openH, u3, Cn.row_f], u2, ⟨a.fine, a.first, a.n, ⟨a.ok.may, Nat.le_refl _⟩, a.live, a.there⟩⟩
end
/-- So many were taken, with nothing lost: how many batches were saved. -/
structure Al (n b i k : Nat) (x : Cn) (Z : Sl) (D : Dk) : Prop where
  at_ : At x [] Z D
  tot : x.tot = n
  bat : x.bat = b
  nxt : x.nxt = i
  res : x.res = if n < b * k then n else b * k
  lo : i ≤ b * k
  hi : b * k < i + b
  num : Z.num = 1 + k
  cnt : D.cnt = 9 * (1 + k)
theorem Al.div {n b i k : Nat} (hb : 0 < b) (h1 : i < b * k) (h2 : b * k < i + 1 + b) : 1 + k = 2 + i / b := by
  have h3 : 0 < k := by
    rcases Nat.eq_zero_or_pos k with h | h
    · subst h; omega
    · exact h
  obtain ⟨m, rfl⟩ : ∃ m, k = m + 1 := ⟨k - 1, by omega⟩
  rw [Nat.mul_add, Nat.mul_one] at h1 h2
  have : i / b = m := by
    rw [Nat.div_eq_iff hb]
    rw [Nat.mul_comm m b]
    omega
  omega
theorem Al.step {n b i k : Nat} {x : Cn} {Z : Sl} {D : Dk} (t : Al n b i k x Z D) (hi : i < n) (hn : n ≤ 60) (hb : 0 < b) (hb2 : b ≤ 70) :
    ∃ Z' D' x' k', x.takeC [] Z D = 0 ∧ x.takeN [] Z D = i ∧ x.take [] Z D = x' ∧ x.takeZ [] Z D = Z' ∧ x.takeD [] Z D = D' ∧ Al n b (i + 1) k' x' Z' D' ∧ Z'.num = 2 + i / b := by
  have hk : k ≤ 60 := by
    have h1 := t.hi
    rcases Nat.lt_or_ge 60 k with h | h
    · have : b * 61 ≤ b * k := Nat.mul_le_mul_left b h
      omega
    · exact h
  by_cases q : x.nxt < x.res
  · obtain ⟨e1, e2, e3, e4, e5, e6⟩ := t.at_.one q
    have hik : i < b * k := by
      have h1 := t.res
      have h2 := t.nxt
      split at h1 <;> omega
    have hd := Al.div (n := n) hb hik (by have := t.hi; omega)
    exact ⟨Z, D, x.next, k, e1, by rw [e2, t.nxt], e3, e4, e5, ⟨e6, t.tot, t.bat, by show x.nxt + 1 = _; rw [t.nxt], t.res, by omega, by have := t.hi; omega, t.num, t.cnt⟩, by rw [t.num]; exact hd⟩
  · have hr := t.res
    have hx := t.nxt
    have hlo := t.lo
    have hhi := t.hi
    have ht := t.tot
    have hbk : b * k = i := by split at hr <;> omega
    obtain ⟨Z', D', e1, e2, e3, e4, e5, e6, e7, e8⟩ := t.at_.more (by omega) (by omega) (by rw [t.num]; omega)
    have hd := Al.div (n := n) (k := k + 1) (i := i) hb (by rw [Nat.mul_add, hbk]; omega) (by rw [Nat.mul_add, hbk]; omega)
    refine ⟨Z', D', x.more.next, k + 1, e1, by rw [e2, hx], e3, e4, e5, ⟨e6, t.tot, t.bat, by show x.nxt + 1 = _; rw [hx], ?_, by rw [Nat.mul_add, hbk]; omega, by rw [Nat.mul_add, hbk]; omega, by rw [e7, t.num]; omega, by rw [e8, t.cnt]; omega⟩, by rw [e7, t.num]; omega⟩
    show (if x.tot < x.res + x.bat then x.tot else x.res + x.bat) = _
    have hres : x.res = i := by split at hr <;> omega
    rw [hres, t.tot, t.bat, Nat.mul_add, hbk, Nat.mul_one]
theorem Al.start {n b : Nat} (h1 : 0 < n) (h2 : n ≤ 60) (h3 : 0 < b) (h4 : b ≤ 70) : ∃ Z D, Cn.newC n b [] aZ0 aD0 = 0 ∧ Cn.newZ n b [] aZ0 aD0 = Z ∧ Cn.newD n b [] aZ0 aD0 = D ∧ Al n b 0 0 (Cn.fresh n b) Z D := by
  obtain ⟨Z, D, e1, e2, e3, e4, e5, e6⟩ := At.new (tot := n) (bat := b) (h := []) (by unfold Cn.May Cn.fresh; simp; omega)
  exact ⟨Z, D, e1, e2, e3, e4, rfl, rfl, rfl, by simp [Cn.fresh], by omega, by omega, by rw [e5], by rw [e6]⟩
/-- At the end all were reserved. -/
theorem Al.full {n b k : Nat} {x : Cn} {Z : Sl} {D : Dk} (t : Al n b n k x Z D) : x.res = n ∧ x.nxt = n ∧ x.tot = n := by
  have h1 := t.res
  have h2 := t.lo
  refine ⟨?_, t.nxt, t.tot⟩
  split at h1 <;> omega
end Go.Proofs.YtnoflgkjdibblaaDoor.S21

/-
  With losses of power alone, between numbers: what was given out and what was skipped, in plain words. No statement is proved here.
-/
namespace Go.Proofs.YtnoflgkjdibblaaDoor.S21
set_option linter.unusedSimpArgs false
set_option linter.unusedVariables false
set_option maxRecDepth 8192
open S19 S20

/-- Behind so many steps. -/
structure Lo (b i gv sk : Nat) (x : Cn) (Z : Sl) (D : Dk) : Prop where
  at_ : At x [] Z D
  tot : x.tot = 40
  bat : x.bat = b
  few : x.res < x.nxt + b
  sum : gv + sk = x.nxt
  num : Z.num ≤ 1 + i
  cnt : D.cnt ≤ 9 * (1 + i)
theorem Lo.start {b : Nat} (h3 : 0 < b) (h4 : b ≤ 9) : ∃ Z D, Cn.newC 40 b [] aZ0 aD0 = 0 ∧ Cn.newZ 40 b [] aZ0 aD0 = Z ∧ Cn.newD 40 b [] aZ0 aD0 = D ∧ Lo b 0 0 0 (Cn.fresh 40 b) Z D := by
  obtain ⟨Z, D, e1, e2, e3, e4, e5, e6⟩ := At.new (tot := 40) (bat := b) (h := []) (by unfold Cn.May Cn.fresh; simp; omega)
  exact ⟨Z, D, e1, e2, e3, e4, rfl, rfl, by show 0 < 0 + b; omega, rfl, by omega, by omega⟩
section
variable {b i gv sk : Nat} {x : Cn} {Z : Sl} {D : Dk}
theorem Lo.below (t : Lo b i gv sk x Z D) : x.nxt ≤ x.res ∧ x.res ≤ 40 := by
  have h1 := t.at_.ok.le
  have h2 := t.at_.ok.may
  unfold Cn.May at h2
  have := t.tot
  omega
theorem Lo.out (t : Lo b i gv sk x Z D) (q : 40 ≤ x.nxt) : x.takeC [] Z D = 9 ∧ x.takeN [] Z D = 0 ∧ gv + sk = 40 := by
  obtain ⟨e1, e2, _⟩ := t.at_.out (by rw [t.tot]; exact q)
  exact ⟨e1, e2, by have := t.below; have := t.sum; omega⟩
theorem Lo.take (t : Lo b i gv sk x Z D) (q : x.nxt < 40) (hi : i < 60) : ∃ Z' D' x', x.takeC [] Z D = 0 ∧ x.takeN [] Z D = gv + sk ∧ x.take [] Z D = x' ∧ x.takeZ [] Z D = Z' ∧ x.takeD [] Z D = D' ∧ Lo b (i + 1) (gv + 1) sk x' Z' D' := by
  have hs := t.sum
  have hf := t.few
  by_cases q2 : x.nxt < x.res
  · obtain ⟨e1, e2, e3, e4, e5, e6⟩ := t.at_.one q2
    exact ⟨Z, D, x.next, e1, by rw [e2, hs], e3, e4, e5, ⟨e6, t.tot, t.bat, by show x.res < x.nxt + 1 + b; omega, by show gv + 1 + sk = x.nxt + 1; omega, by have := t.num; omega, by have := t.cnt; omega⟩⟩
  · obtain ⟨Z', D', e1, e2, e3, e4, e5, e6, e7, e8⟩ := t.at_.more (by omega) (by rw [t.tot]; exact q) (by have := t.num; omega)
    refine ⟨Z', D', x.more.next, e1, by rw [e2, hs], e3, e4, e5, ⟨e6, t.tot, t.bat, ?_, by show gv + 1 + sk = x.nxt + 1; omega, by have := t.num; omega, by have := t.cnt; omega⟩⟩
    show (if x.tot < x.res + x.bat then x.tot else x.res + x.bat) < x.nxt + 1 + b
    have := t.bat
    have := t.below
    split <;> omega
theorem Lo.lose (t : Lo b i gv sk x Z D) : D.up [] [] 0 = { D with cnt := 0 } ∧ At x [] Z { D with cnt := 0 } ∧ ∀ Y : Sl, Y.first = 0 → Y.n = 8 → Cn.openC Y { D with cnt := 0 } = 0 ∧ Cn.openX Y { D with cnt := 0 } = { x with nxt := x.res } ∧ Cn.openH Y { D with cnt := 0 } = [] ∧ Y.load { D with cnt := 0 } = Z ∧ Lo b (i + 1) gv (sk + x.res - x.nxt) { x with nxt := x.res } Z { D with cnt := 0 } := by
  obtain ⟨e1, e2⟩ := t.at_.up []
  refine ⟨e1, e2, fun Y h1 h2 => ?_⟩
  obtain ⟨o1, o2, o3, o4, o5⟩ := e2.opn Y h1 h2
  have hs := t.sum
  have hb := t.below
  have hf := t.few
  exact ⟨o1, o2, o3, o4, ⟨o5, t.tot, t.bat, by show x.res < x.res + b; omega, by show gv + (sk + x.res - x.nxt) = x.res; omega, by have := t.num; omega, by show 0 ≤ _; omega⟩⟩
end
/-- So many were taken of a hundred, by three. -/
structure Hd (i : Nat) (h : List UInt8) (x : Cn) (Z : Sl) (D : Dk) : Prop where
  at_ : At x h Z D
  tot : x.tot = 100
  nxt : x.nxt = i
  num : Z.num ≤ 1 + i
  cnt : D.cnt ≤ 9 * (1 + i)
theorem Hd.start {h : List UInt8} (hl : h.length ≤ 200) : ∃ Z D, Cn.newC 100 3 h aZ0 aD0 = 0 ∧ Cn.newZ 100 3 h aZ0 aD0 = Z ∧ Cn.newD 100 3 h aZ0 aD0 = D ∧ Hd 0 h (Cn.fresh 100 3) Z D := by
  obtain ⟨Z, D, e1, e2, e3, e4, e5, e6⟩ := At.new (tot := 100) (bat := 3) (h := h) (by unfold Cn.May Cn.fresh; simp; omega)
  exact ⟨Z, D, e1, e2, e3, e4, rfl, rfl, by omega, by omega⟩
theorem Hd.step {i : Nat} {h : List UInt8} {x : Cn} {Z : Sl} {D : Dk} (t : Hd i h x Z D) (hi : i < 20) : ∃ Z' D' x', x.takeC h Z D = 0 ∧ x.takeN h Z D = i ∧ x.take h Z D = x' ∧ x.takeZ h Z D = Z' ∧ x.takeD h Z D = D' ∧ Hd (i + 1) h x' Z' D' := by
  have hx := t.nxt
  have ht := t.tot
  by_cases q2 : x.nxt < x.res
  · obtain ⟨e1, e2, e3, e4, e5, e6⟩ := t.at_.one q2
    exact ⟨Z, D, x.next, e1, by rw [e2, hx], e3, e4, e5, ⟨e6, t.tot, by show x.nxt + 1 = _; rw [hx], by have := t.num; omega, by have := t.cnt; omega⟩⟩
  · obtain ⟨Z', D', e1, e2, e3, e4, e5, e6, e7, e8⟩ := t.at_.more (by omega) (by omega) (by have := t.num; omega)
    exact ⟨Z', D', x.more.next, e1, by rw [e2, hx], e3, e4, e5, ⟨e6, t.tot, by show x.nxt + 1 = _; rw [hx], by have := t.num; omega, by have := t.cnt; omega⟩⟩
theorem Hd.opn {i : Nat} {h : List UInt8} {x : Cn} {Z : Sl} {D : Dk} (t : Hd i h x Z D) (Y : Sl) (h1 : Y.first = 0) (h2 : Y.n = 8) : Cn.openC Y D = 0 ∧ (Cn.openX Y D).tot = 100 ∧ Cn.openH Y D = h ∧ Y.load D = Z := by
  obtain ⟨o1, o2, o3, o4, _⟩ := t.at_.opn Y h1 h2
  exact ⟨o1, by rw [o2]; exact t.tot, o3, o4⟩
end Go.Proofs.YtnoflgkjdibblaaDoor.S21

/-
  A counter, its slots and its disk in memory, apart; what the calls on them come to. No statement is proved here.
-/
namespace Go.Proofs.YtnoflgkjdibblaaDoor.S21
set_option linter.unusedSimpArgs false
set_option linter.unusedVariables false
set_option maxRecDepth 8192
open Go.RowKit S19 S20

theorem cn_fd0 (a b c d : Int) (e : Bool) (W : World) : (Instr.field 24 (.agg #[.int .u64 a, .int .u64 b, .int .u64 c, .int .u64 d, .bool e]) 0).run Tryd.prog W = .ok (.int .u64 a) W := by kernel_rfl
theorem cn_fd2 (a b c d : Int) (e : Bool) (W : World) : (Instr.field 24 (.agg #[.int .u64 a, .int .u64 b, .int .u64 c, .int .u64 d, .bool e]) 2).run Tryd.prog W = .ok (.int .u64 c) W := by kernel_rfl
theorem cn_fd3 (a b c d : Int) (e : Bool) (W : World) : (Instr.field 24 (.agg #[.int .u64 a, .int .u64 b, .int .u64 c, .int .u64 d, .bool e]) 3).run Tryd.prog W = .ok (.int .u64 d) W := by kernel_rfl
/-- The landed counter, slots and disk, apart. -/
structure Lv (M : DC) (C : SlC M) (K : RvC M C) (N : Nat) (w : World) (g s cc : Nat) (x : Cn) (h : List UInt8) (Z : Sl) (D : Dk) (F S R : Nat → Prop) : Prop where
  lz : Lz M C N w g s D Z F S
  is : K.Is N w cc s x h R
  ap : ∀ b, R b → ¬ Or2 F S b
section
variable {M : DC} {C : SlC M} {K : RvC M C} {N : Nat} {w w' X : World} {g s cc : Nat} {x : Cn} {h : List UInt8} {Z : Sl} {D : Dk} {F S R : Nat → Prop}
theorem Lv.grow (t : Lv M C K N w g s cc x h Z D F S R) (hb : Below w.heap.size w w') : Lv M C K N w' g s cc x h Z D F S R :=
  ⟨t.lz.grow hb, K.keep t.is hb.size fun b _ hl => hb.block b hl, t.ap⟩
theorem Lv.lt (t : Lv M C K N w g s cc x h Z D F S R) : ∀ b, Or3 F S R b → N ≤ b ∧ b < w.heap.size := by
  rintro b (e | e | e)
  · exact t.lz.lt b (.inl e)
  · exact t.lz.lt b (.inr e)
  · exact K.lt t.is b e
theorem Lv.keep (t : Lv M C K N w g s cc x h Z D F S R) (hs : w.heap.size ≤ w'.heap.size) (hk : ∀ b, (b < N ∨ Or3 F S R b) → b < w.heap.size → w'.heap[b]? = w.heap[b]?) : Lv M C K N w' g s cc x h Z D F S R :=
  ⟨⟨M.keep t.lz.is hs fun b hb hl => hk b (hb.imp id .inl) hl, C.keep t.lz.sl hs fun b hb hl => hk b (hb.imp id (fun e => .inr (.inl e))) hl, t.lz.dj, t.lz.zo⟩, K.keep t.is hs fun b hb hl => hk b (hb.imp id (fun e => .inr (.inr e))) hl, t.ap⟩
/-- The slots have moved, and the disk; the counter hasn't. -/
theorem Lv.under (t : Lv M C K N w g s cc x h Z D F S R) {Z' : Sl} {D' : Dk} {F' S' : Nat → Prop} (hL : Lz M C N w' g s D' Z' F' S') (hs : ∀ b, Or2 F' S' b → Or2 F S b ∨ w.heap.size ≤ b) (m : Mv N (Or2 F S) w w') : Lv M C K N w' g s cc x h Z' D' F' S' R := by
  refine ⟨hL, K.keep t.is m.size fun b hb hl => m.same b hl fun hO => ?_, fun b hb hO => ?_⟩
  · rcases hb with e | e
    · have := (t.lz.lt b hO).1; omega
    · exact t.ap b e hO
  · rcases hs b hO with e | e
    · exact t.ap b hb e
    · have := (K.lt t.is b hb).2; omega
theorem Lv.take (t : Lv M C K N X g s cc x h Z D F S R) (hk : K.ok X) (ho : x.Ok h.length) (hc : D.cnt < 1099511600000) : Calls Tryd.prog 16 #[.pointer (some ⟨cc, 0, none⟩)] X fun e w' =>
    ∃ F' S' R', e = .returned (.tuple #[.int .u64 (x.takeN h Z D : Int), .int .i64 (x.takeC h Z D : Int)]) ∧ Lv M C K N w' g s cc (x.take h Z D) h (x.takeZ h Z D) (x.takeD h Z D) F' S' R' ∧ (∀ b, Or3 F' S' R' b → Or3 F S R b ∨ X.heap.size ≤ b) ∧ Mv N (Or3 F S R) X w' :=
  (K.take N X cc s g x h D Z F S R hk t.lz t.is t.ap ho hc).mono fun e w' ⟨F', S', R', h1, h2, h3, h4, h5, h6⟩ => ⟨F', S', R', h1, ⟨h2, h3, h4⟩, h5, h6⟩
theorem Lv.now (t : Lv M C K N X g s cc x h Z D F S R) (hk : K.ok X) : Calls Tryd.prog 17 #[.pointer (some ⟨s, 0, none⟩)] X fun e w' => ∃ A c, e = .returned (.tuple #[.slice A Z.b.length c, .int .u64 (Z.num : Int)]) ∧ Lv M C K N w' g s cc x h Z D F S R ∧ Below N X w' := by
  refine (C.now N X s g Z S (K.okC hk) t.lz.sl).mono fun e w' ⟨A, c, h1, h2, h0, h3, h4⟩ => ⟨A, c, h1, t.under ⟨M.keep t.lz.is h4.size fun b hb hl => h4.same b hl fun hS => ?_, h3, t.lz.dj, t.lz.zo⟩ (fun b hb => .inl hb) (h4.mono fun b hb => .inr hb), h4.bel⟩
  rcases hb with e | e
  · have := (C.lt t.lz.sl b hS).1; omega
  · exact t.lz.dj b e hS
theorem Lv.head (t : Lv M C K N X g s cc x h Z D F S R) (hk : K.ok X) : Calls Tryd.prog 20 #[.pointer (some ⟨cc, 0, none⟩)] X fun e w' => ∃ A c, e = .returned (.slice A h.length c) ∧ w'.ownsRow X.heap.size 5 1 (.slice A h.length c) h.length (bv h) ∧ Lv M C K N w' g s cc x h Z D F S R ∧ Below X.heap.size X w' :=
  (K.head N X cc s x h R hk t.is).mono fun e w' ⟨A, c, h1, h2, h4⟩ => ⟨A, c, h1, h2, t.grow h4, h4⟩
theorem Lv.state (t : Lv M C K N X g s cc x h Z D F S R) (hk : K.ok X) : Calls Tryd.prog 19 #[.pointer (some ⟨cc, 0, none⟩)] X fun e w' => e = .returned (.agg x.cells) ∧ Lv M C K N w' g s cc x h Z D F S R ∧ Below X.heap.size X w' :=
  (K.state N X cc s x h R hk t.is).mono fun e w' ⟨h1, h4⟩ => ⟨h1, t.grow h4, h4⟩
theorem Lv.count (t : Lv M C K N X g s cc x h Z D F S R) (hk : K.ok X) : Calls Tryd.prog 18 #[.pointer (some ⟨g, 0, none⟩)] X fun e w' => ∃ F' p, e = .returned (.tuple #[.int .i64 (D.cnt : Int), .int .i64 p]) ∧ Lv M C K N w' g s cc x h Z D F' S R ∧ Below N X w' :=
  (M.count N X g D F (C.okM (K.okC hk)) t.lz.is).mono fun e w' ⟨h1, F', h2, h3, h4⟩ => ⟨F', _, h1, t.under (t.lz.disk h2 h3 h4 rfl) (fun b hb => hb.elim (fun e => (h3 b e).imp .inl id) (fun e => .inl (.inr e))) (h4.mono fun b hb => .inl hb), h4.bel⟩
end
section
variable {M : DC} {C : SlC M} {K : RvC M C} {N : Nat} {w : World}
/-- A new disk, new slots. -/
theorem made_disk (M : DC) (C : SlC M) (K : RvC M C) (X : World) (hk : K.ok X) (hN : N ≤ X.heap.size) : Calls Tryd.prog 13 #[.int .i64 16] X fun e w' => ∃ g F, e = .returned (.tuple #[.pointer (some ⟨g, 0, none⟩), .int .i64 0]) ∧ M.Is N w' g aD0 F ∧ Below N X w' :=
  (M.new N X 16 (C.okM (K.okC hk)) hN (by omega) (by omega)).mono fun e w' ⟨g, F, h1, h2, h3, h4⟩ => ⟨g, F, h1, h2, h4.mono hN⟩
theorem made_slots (K : RvC M C) {X : World} (hk : K.ok X) {g : Nat} {D : Dk} {F : Nat → Prop} (hI : M.Is N X g D F) (hl : 16 ≤ D.sure.length) : Calls Tryd.prog 14 #[.pointer (some ⟨g, 0, none⟩), .int .i64 0, .int .i64 8] X fun e w' => ∃ s F' S', e = .returned (.tuple #[.pointer (some ⟨s, 0, none⟩), .int .i64 0]) ∧ Lz M C N w' g s D aZ0 F' S' ∧ (∀ b, Or2 F' S' b → F b ∨ X.heap.size ≤ b) ∧ Mv N F X w' :=
  (C.new N X g D F 0 8 (K.okC hk) hI (decide_eq_true (by omega))).mono fun e w' ⟨s, S, F', h1, h2, h3, h4, h5, h6, h7⟩ => ⟨s, F', S, h1, ⟨h3, h2, h6, new_ok (first := 0) (n := 8) (decide_eq_true (by omega))⟩, fun b hb => hb.elim (h5 b) (fun e => .inr (h4 b e)), h7⟩
theorem made_cn (K : RvC M C) {X : World} (hk : ∀ Y, Below N X Y → K.ok Y) {g s : Nat} {F S : Nat → Prop} (hL : Lz M C N X g s aD0 aZ0 F S) {A : Option Addr} {n c tot bat : Nat} {h : List UInt8} (hr : Rd X A n c h) (hA : ∀ a, 0 < n → A = some a → ¬ Or2 F S a.block) (ht : tot < 1000) (hb : bat < 1000) (hn : n ≤ 1000) (h0 : Cn.newC tot bat h aZ0 aD0 = 0) :
    Calls Tryd.prog 15 #[.pointer (some ⟨s, 0, none⟩), .slice A n c, .int .u64 (tot : Int), .int .u64 (bat : Int)] X fun e w' => ∃ cc F' S' R, e = .returned (.tuple #[.pointer (some ⟨cc, 0, none⟩), .int .i64 0]) ∧ Lv M C K N w' g s cc (Cn.fresh tot bat) h (Cn.newZ tot bat h aZ0 aD0) (Cn.newD tot bat h aZ0 aD0) F' S' R ∧ (∀ b, Or3 F' S' R b → Or2 F S b ∨ X.heap.size ≤ b) ∧ Mv N (Or2 F S) X w' := by
  refine (K.new N X s g aD0 aZ0 F S A n c h tot bat hk hL hr hA (by show 0 < _; omega) (by omega) (by omega) (by omega)).mono ?_
  rintro e w' ⟨p, F', S', h1, h2, h3, h4, h5, h6⟩
  obtain ⟨cc, R, rfl, i1, i2, i3⟩ := h3 h0
  rw [h0] at h1
  refine ⟨cc, F', S', R, h1, ⟨h4, i1, i3⟩, ?_, h6⟩
  rintro b (e | e | e)
  · exact h5 b (.inl e)
  · exact h5 b (.inr e)
  · exact .inr (i2 b e)
end
end Go.Proofs.YtnoflgkjdibblaaDoor.S21

/-
  The walk of layer 20's third statement (SlotsTurns), over the contracts. No statement is proved here. (Written by gensll4.py.)
-/
namespace Go.Proofs.YtnoflgkjdibblaaDoor.S20
set_option linter.unusedSimpArgs false
set_option linter.unusedVariables false
set_option maxRecDepth 4096
open Go.RowKit S19

/-- So many records were saved, on a disk of four sectors with which nothing failed. -/
structure Tn (i : Nat) (D : Dk) (Z : Sl) : Prop where
  calm : Calm D
  pend : D.pend = []
  len : D.sure.length = 4
  cnt : D.cnt = 3 * i
  first : Z.first = 0
  n : Z.n = 2
  num : Z.num = i
  goes : Z.goes = i % 2
  other : (whole (Z.area D (1 - Z.goes)) Z.n).1 ≤ Z.num
theorem Tn.start : Tn 0 (Dk.new 4) (Sl.new 0 2) :=
  ⟨Calm.new 4, rfl, rfl, rfl, rfl, rfl, rfl, rfl, by
    rw [area_new (k := 4) (Z := Sl.new 0 2) (by show 0 + 2 * 2 ≤ 4; omega) (by omega), whole_zero]
    exact Nat.zero_le _⟩
theorem Tn.step {i : Nat} {D : Dk} {Z : Sl} {b : List UInt8} (t : Tn i D Z) (hZ : Z.Ok D) (hi : i < 30) (hb : b.length ≤ 100) :
    Z.saveC D b = 0 ∧ Tn (i + 1) (Z.saveD D b) (Z.save D b) ∧ ((Z.saveD D b).sure.getD (2 * (i % 2)) []).take 8 = putL (i + 1) 8 ∧ (Sl.new 0 2).loadC (Z.saveD D b) = 0 ∧ (Sl.new 0 2).loadB (Z.saveD D b) = b ∧ (Sl.new 0 2).loadN (Z.saveD D b) = i + 1 := by
  have hr : b.length ≤ room Z.n := by rw [t.n, room_nat (n := 2) (by omega) (by omega)]; omega
  obtain ⟨h1, h2, h3, h4, h5, h6, h7⟩ := save_calm t.calm t.pend hZ hr
  have hn : Z.num + 1 < 18446744073709551616 := by rw [t.num]; omega
  have hx : Z.next = i + 1 := by rw [Sl.next, Nat.mod_eq_of_lt hn, t.num]
  have hl := saveD_len Z D b
  have hg : Z.goes = 0 ∨ Z.goes = 1 := by rw [t.goes]; omega
  obtain ⟨l1, l2⟩ := load_saved t.calm t.pend hZ hr hn t.other (Sl.new 0 2) ⟨t.first.symm, t.n.symm⟩
  have hg2 : (Z.save D b).goes = 1 - Z.goes := by
    rw [h2]
    show (if (Z.goes : Int) = 0 then 1 else 0) = _
    rcases hg with e | e <;> rw [e] <;> rfl
  have hf : (Z.save D b).first = 0 ∧ (Z.save D b).n = 2 := by rw [h2]; exact ⟨t.first, t.n⟩
  refine ⟨h1, ⟨h3, h4, by rw [hl]; exact t.len, by rw [h5, t.cnt, t.n]; omega, hf.1, hf.2, by rw [h2]; exact hx, by rw [hg2, t.goes]; omega, ?_⟩, ?_, l1, by rw [Sl.loadB, if_pos l1, l2], by rw [Sl.loadN, if_pos l1, l2, t.num]⟩
  · have e1 : 1 - (Z.save D b).goes = Z.goes := by rw [hg2]; omega
    have e2 : (Z.save D b).area (Z.saveD D b) Z.goes = Z.area (Z.saveD D b) Z.goes := by rw [Sl.area, Sl.area, hf.1, hf.2, t.first, t.n]
    rw [e1, e2, h6, hf.2, t.n, whole_rec (by rw [hx]; omega) (by rw [hx]; omega) (by omega) (by omega) (by rw [← t.n]; exact hr), h2]
    exact Nat.le_refl _
  · have e1 : Z.area (Z.saveD D b) Z.goes = (Z.saveD D b).sure.getD (2 * (i % 2)) [] ++ (Z.saveD D b).sure.getD (2 * (i % 2) + 1) [] := by
      rw [Sl.area, t.first, t.n, Nat.zero_add, t.goes, Nat.mul_comm (i % 2) 2]
      simp [Sl.areaK, Dk.atS, h4, Dk.lastOf]
    have hD : (Z.saveD D b).sure.getD (2 * (i % 2)) [] = Sl.row (recB (i + 1) b 2) 0 := by
      have e2 : Z.saveD D b = { D with cnt := D.cnt + Z.n + 1, sure := Dk.laid (rowsP (Z.first + Z.goes * Z.n) (recB Z.next b Z.n) 0 Z.n) D.sure, pend := [] } := by
        have hw : Z.written D b = (0, { D with cnt := D.cnt + Z.n, pend := rowsP (Z.first + Z.goes * Z.n) (recB Z.next b Z.n) 0 Z.n }) := by
          have hfit : Z.first + Z.goes * Z.n + 0 + Z.n ≤ D.sure.length := by
            rw [t.first, t.n, t.len]
            rcases hg with e | e <;> rw [e] <;> omega
          rw [Sl.written, writes_calm _ _ _ _ _ t.calm hfit (by rw [recB_len _ _ _ (by have := room_nat hZ.one hZ.most; have := hZ.one; omega)]; omega), t.pend, List.nil_append]
        have hc2 : Calm { D with cnt := D.cnt + Z.n, pend := rowsP (Z.first + Z.goes * Z.n) (recB Z.next b Z.n) 0 Z.n } := ⟨t.calm.off, t.calm.stop, t.calm.fails⟩
        rw [Sl.saveD, if_neg (by omega), hw, if_pos rfl]
        show Dk.flush _ = _
        rw [Dk.flush, if_neg (by show ¬ D.off = true; rw [t.calm.off]; simp), if_pos hc2.code, hc2.step]
      rw [e2]
      show (Dk.laid _ D.sure).getD _ [] = _
      have hfit : Z.first + Z.goes * Z.n + 0 + Z.n ≤ D.sure.length := by
        rw [t.first, t.n, t.len]
        rcases hg with e | e <;> rw [e] <;> omega
      rw [laid_rowsP _ _ _ _ _ _ hfit, if_pos (by rw [t.first, t.n, t.goes]; omega), hx, t.n, t.first, t.goes]
      congr 1
      omega
    have hlen : 28 + b.length ≤ 64 * 2 := by omega
    rw [hD, Sl.row, Nat.mul_zero, List.drop_zero, List.take_take, recB, fullB, headB]
    simp [putL_length]
theorem u64_small (m : Nat) (h : m ≤ 1000000) : IntKind.u64.wrap (m : Int) = (m : Int) ∧ (m : Int) % 18446744073709551616 = (m : Int) := by
  constructor
  · rw [IntKind.wrap_u64]; omega
  · omega
theorem mod8 (j : Nat) (h : j < 30) : (j + 1) % 256 ^ 8 = j + 1 := by
  have e : (256 : Nat) ^ 8 = 18446744073709551616 := by decide
  exact Nat.mod_eq_of_lt (by rw [e]; omega)
theorem half_of (j : Nat) (h : j < 30) : ∃ p r j1 : Nat, p = j % 2 ∧ r = 2 * p ∧ j1 = j + 1 ∧ (j : Int).tmod 2 = (p : Int) ∧ (j : Int) % 2 = (p : Int) ∧ (2 : Int) * (p : Int) = (r : Int) ∧ (r : Int) < 4 ∧ r < 4 ∧ (j : Int) + 1 = (j1 : Int) ∧ j1 ≤ 1000000 ∧ r ≤ 1000000 ∧ p ≤ 1000000 :=
  ⟨j % 2, 2 * (j % 2), j + 1, rfl, rfl, rfl, by rw [Int.tmod_eq_emod_of_nonneg (by omega)]; rfl, rfl, by omega, by omega, by omega, by omega, by omega, by omega, by omega⟩
/-- Slots beside others on one disk. -/
theorem Lz.other {M : DC} {C : SlC M} {N : Nat} {w w' : World} {g s : Nat} {D : Dk} {Z : Sl} {F S F' S2 S2' : Nat → Prop} (t : Lz M C N w g s D Z F S) (l2 : ∀ b, S2 b → N ≤ b) (d2 : ∀ b, S b → ¬ S2 b) (hI : M.Is N w' g D F') (hs : ∀ b, Or2 F' S2' b → Or2 F S2 b ∨ w.heap.size ≤ b) (m : Mv N (Or2 F S2) w w') : Lz M C N w' g s D Z F' S := by
  refine ⟨hI, C.keep t.sl m.size fun b hb hlt => m.same b hlt fun hF => ?_, fun b hF hS => ?_, t.zo⟩
  · rcases hb with e | e
    · rcases hF with q | q
      · have := (M.lt t.is b q).1; omega
      · have := l2 b q; omega
    · rcases hF with q | q
      · exact t.dj b q e
      · exact d2 b e q
  · rcases hs b (.inl hF) with (e | e) | e
    · exact t.dj b e hS
    · exact d2 b hS e
    · have := (C.lt t.sl b hS).2; omega
end Go.Proofs.YtnoflgkjdibblaaDoor.S20

/-
  The walk of layer 21's third statement (ReserveAll), over the contracts. No statement is proved here.
-/
namespace Go.Proofs.YtnoflgkjdibblaaDoor.S21
set_option linter.unusedSimpArgs false
set_option linter.unusedVariables false
set_option maxRecDepth 8192
open Go.RowKit S19 S20

theorem all_nums (a c : Nat) (ha : a < 256) (hc : c < 256) : ∃ p n q b : Nat, (a : Int).tmod 60 = (p : Int) ∧ (a : Int) % 60 = (p : Int) ∧ (1 : Int) + (p : Int) = (n : Int) ∧ (c : Int).tmod 70 = (q : Int) ∧ (c : Int) % 70 = (q : Int) ∧ (1 : Int) + (q : Int) = (b : Int) ∧ 1 ≤ n ∧ n ≤ 60 ∧ 1 ≤ b ∧ b ≤ 70 ∧ p ≤ 60 ∧ q ≤ 70 :=
  ⟨a % 60, 1 + a % 60, c % 70, 1 + c % 70, by rw [Int.tmod_eq_emod_of_nonneg (by omega)]; rfl, rfl, by omega, by rw [Int.tmod_eq_emod_of_nonneg (by omega)]; rfl, rfl, by omega, by omega, by omega, by omega, by omega, by omega, by omega⟩
theorem quo_nums (i b : Nat) (hb : 1 ≤ b) (hi : i ≤ 60) : ∃ d e : Nat, d = i / b ∧ (i : Int).tdiv (b : Int) = (d : Int) ∧ (i : Int) / (b : Int) = (d : Int) ∧ (2 : Int) + (d : Int) = (e : Int) ∧ e = 2 + i / b ∧ d ≤ 60 ∧ e ≤ 100 := by
  have h : i / b ≤ i := Nat.div_le_self _ _
  refine ⟨i / b, 2 + i / b, rfl, ?_, rfl, by omega, rfl, by omega, by omega⟩
  rw [Int.tdiv_eq_ediv_of_nonneg (by omega)]
  rfl
set_option maxHeartbeats 8000000 in
theorem reserveAll_walk (M : DC) (C : SlC M) (K : RvC M C) (w : World) (hk : K.ok w) (a c : Nat) (ha : a < 256) (hc : c < 256) :
    Calls Tryd.prog 4 #[.int .u8 (a : Int), .int .u8 (c : Int)] w fun e w' => e = .returned (.bool true) ∧ Below w.heap.size w w' := by
  obtain ⟨N, hN⟩ : ∃ N, w.heap.size = N := ⟨_, rfl⟩
  have HN := Lib.hid hN
  have OKN := Lib.hid (show ∀ X, Below N w X → K.ok X from fun X hX => K.bel hk (by rw [hN]; exact hX))
  have SZ := Lib.hid (show ∀ X, Below N w X → N ≤ X.heap.size from fun X hX => by have := hX.size; omega)
  have CA := Lib.hid (show Calls Tryd.prog 7 #[] w fun e w' => e = .returned (.bool true) ∧ Below N w w' from (awake21_any M C K w hk).mono fun e w' h => by rw [← hN]; exact h)
  obtain ⟨p, n, q, b, p1, p2, p3, q1, q2, q3, n1, n2, b1, b2, p4, q4⟩ := all_nums a c ha hc
  obtain ⟨ZZ, DD, e1, e2, e3, e4⟩ := Al.start (n := n) (b := b) n1 n2 b1 b2
  have C1 := Lib.hid (show ∀ X, Below N w X → Calls Tryd.prog 13 #[.int .i64 16] X fun e w' => ∃ g F, e = .returned (.tuple #[.pointer (some ⟨g, 0, none⟩), .int .i64 0]) ∧ M.Is N w' g aD0 F ∧ Below N w w' from fun X hX => (made_disk M C K X (OKN.out X hX) (SZ.out X hX)).mono fun e w' ⟨g, F, h1, h2, h3⟩ => ⟨g, F, h1, h2, hX.trans h3⟩)
  have C2 := Lib.hid (show ∀ X g F, Below N w X → M.Is N X g aD0 F → Calls Tryd.prog 14 #[.pointer (some ⟨g, 0, none⟩), .int .i64 0, .int .i64 8] X fun e w' => ∃ s F' S', e = .returned (.tuple #[.pointer (some ⟨s, 0, none⟩), .int .i64 0]) ∧ Lz M C N w' g s aD0 aZ0 F' S' ∧ Below N w w' from fun X g F hX hI => (made_slots K (OKN.out X hX) hI (Nat.le_refl 16)).mono fun e w' ⟨s, F', S', h1, h2, h3, h4⟩ => ⟨s, F', S', h1, h2, hX.trans h4.bel⟩)
  have C3 := Lib.hid (show ∀ X g s F S, Below N w X → Lz M C N X g s aD0 aZ0 F S → Calls Tryd.prog 15 #[.pointer (some ⟨s, 0, none⟩), .slice none 0 0, .int .u64 (n : Int), .int .u64 (b : Int)] X fun e w' => ∃ cc F' S' R, e = .returned (.tuple #[.pointer (some ⟨cc, 0, none⟩), .int .i64 0]) ∧ Lv M C K N w' g s cc (Cn.fresh n b) [] ZZ DD F' S' R ∧ Below N w w' from fun X g s F S hX hL =>
    (made_cn K (fun Y hY => OKN.out Y (hX.trans hY)) hL (Rd.nil_ X) (fun a h _ => absurd h (by omega)) (by omega) (by omega) (by omega) e1).mono fun e w' ⟨cc, F', S', R, h1, h2, h3, h4⟩ => ⟨cc, F', S', R, h1, by rw [e2, e3] at h2; exact h2, hX.trans h4.bel⟩)
  have C4 := Lib.hid (show ∀ X g s cc i k x Z D F S R, Below N w X → Lv M C K N X g s cc x [] Z D F S R → Al n b i k x Z D → i < n → Calls Tryd.prog 16 #[.pointer (some ⟨cc, 0, none⟩)] X fun e w' =>
      ∃ F' S' R' x' Z' D' k', e = .returned (.tuple #[.int .u64 (i : Int), .int .i64 0]) ∧ Lv M C K N w' g s cc x' [] Z' D' F' S' R' ∧ Al n b (i + 1) k' x' Z' D' ∧ Z'.num = 2 + i / b ∧ Below N w w' from fun X g s cc i k x Z D F S R hX hL hA hi => by
    obtain ⟨Z', D', x', k', t1, t2, t3, t4, t5, t6, t7⟩ := hA.step hi n2 b1 b2
    have hkk : k ≤ 60 := by
      have h1 := hA.hi
      rcases Nat.lt_or_ge 60 k with h | h
      · have : b * 61 ≤ b * k := Nat.mul_le_mul_left b h
        omega
      · exact h
    refine (hL.take (OKN.out X hX) hA.at_.ok (by rw [hA.cnt]; omega)).mono fun e w' ⟨F', S', R', h1, h2, h3, h4⟩ => ?_
    rw [t1, t2] at h1
    rw [t3, t4, t5] at h2
    exact ⟨F', S', R', x', Z', D', k', h1, h2, t6, t7, hX.trans h4.bel⟩)
  have C5 := Lib.hid (show ∀ X g s cc x Z D F S R, Below N w X → Lv M C K N X g s cc x [] Z D F S R → Calls Tryd.prog 17 #[.pointer (some ⟨s, 0, none⟩)] X fun e w' => ∃ v, e = .returned (.tuple #[v, .int .u64 (Z.num : Int)]) ∧ Lv M C K N w' g s cc x [] Z D F S R ∧ Below N w w' from fun X g s cc x Z D F S R hX hL => (hL.now (OKN.out X hX)).mono fun e w' ⟨A, c, h1, h2, h3⟩ => ⟨_, h1, h2, hX.trans h3⟩)
  have C6 := Lib.hid (show ∀ X g s cc x Z D F S R, Below N w X → Lv M C K N X g s cc x [] Z D F S R → Calls Tryd.prog 18 #[.pointer (some ⟨g, 0, none⟩)] X fun e w' => ∃ F' p, e = .returned (.tuple #[.int .i64 (D.cnt : Int), .int .i64 p]) ∧ Lv M C K N w' g s cc x [] Z D F' S R ∧ Below N w w' from fun X g s cc x Z D F S R hX hL => (hL.count (OKN.out X hX)).mono fun e w' ⟨F', p, h1, h2, h3⟩ => ⟨F', p, h1, h2, hX.trans h3⟩)
  have C7 := Lib.hid (show ∀ X g s cc k x Z D F S R, Below N w X → Lv M C K N X g s cc x [] Z D F S R → Al n b n k x Z D → Calls Tryd.prog 16 #[.pointer (some ⟨cc, 0, none⟩)] X fun e w' =>
      ∃ F' S' R', e = .returned (.tuple #[.int .u64 0, .int .i64 9]) ∧ Lv M C K N w' g s cc x [] Z D F' S' R' ∧ Below N w w' from fun X g s cc k x Z D F S R hX hL hA => by
    obtain ⟨t1, t2, t3, t4, t5⟩ := hA.at_.out (by rw [hA.nxt, hA.tot]; exact Nat.le_refl _)
    have hkk : k ≤ 130 := by
      have h1 := hA.hi
      rcases Nat.lt_or_ge 130 k with h | h
      · have : b * 131 ≤ b * k := Nat.mul_le_mul_left b h
        omega
      · exact h
    refine (hL.take (OKN.out X hX) hA.at_.ok (by rw [hA.cnt]; omega)).mono fun e w' ⟨F', S', R', h1, h2, h3, h4⟩ => ?_
    rw [t1, t2] at h1
    rw [t3, t4, t5] at h2
    exact ⟨F', S', R', h1, h2, hX.trans h4.bel⟩)
  have C8 := Lib.hid (show ∀ X g s cc k x Z D F S R, Below N w X → Lv M C K N X g s cc x [] Z D F S R → Al n b n k x Z D → Calls Tryd.prog 19 #[.pointer (some ⟨cc, 0, none⟩)] X fun e w' =>
      e = .returned (.agg #[.int .u64 (n : Int), .int .u64 (b : Int), .int .u64 (n : Int), .int .u64 (n : Int), .bool false]) ∧ Lv M C K N w' g s cc x [] Z D F S R ∧ Below N w w' from fun X g s cc k x Z D F S R hX hL hA => by
    obtain ⟨f1, f2, f3⟩ := hA.full
    have hcell : x.cells = #[.int .u64 (n : Int), .int .u64 (b : Int), .int .u64 (n : Int), .int .u64 (n : Int), .bool false] := by rw [Cn.cells, f1, f2, f3, hA.bat, hA.at_.live]
    refine (hL.state (OKN.out X hX)).mono fun e w' ⟨h1, h2, h3⟩ => ?_
    rw [hcell] at h1
    exact ⟨h1, h2, hX.trans (h3.mono (SZ.out X hX))⟩)
  have AS := Lib.hid e4
  have NB := Lib.hid (show 1 ≤ n ∧ n ≤ 60 ∧ 1 ≤ b ∧ b ≤ 70 from ⟨n1, n2, b1, b2⟩)
  obtain ⟨x1, x2⟩ := u64_small p (by omega)
  obtain ⟨x3, x4⟩ := u64_small n (by omega)
  obtain ⟨x5, x6⟩ := u64_small q (by omega)
  obtain ⟨x7, x8⟩ := u64_small b (by omega)
  clear hk e1 e2 e3 e4 n1 n2 b1 b2 p4 q4 hN
  go_enter Tryd.func4, Tryd.ntmps4
  go_upto_region 5 with (first
    | (go_at_call 7; ((with_reducible refine CA.out.mono ?_); rintro e w1 ⟨rfl, b1⟩; have B1 := Lib.hid b1; clear b1)))
  clear p1 p2 p3 q1 q2 q3 x1 x2 x5 x6
  go_upto_region 14 with (first
    | (go_at_call 13; ((with_reducible refine (C1.out w1 B1.out).mono ?_); rintro e w2 ⟨g, F2, rfl, i2, b2⟩; have I2 := Lib.hid i2; have B2 := Lib.hid b2; clear i2 b2))
    | (go_at_call 14; ((with_reducible refine (C2.out w2 g F2 B2.out I2.out).mono ?_); rintro e w3 ⟨s, F3, S3, rfl, i3, b3⟩; have I3 := Lib.hid i3; have B3 := Lib.hid b3; clear i3 b3))
    | (go_at_call 15; ((with_reducible refine (C3.out w3 g s F3 S3 B3.out I3.out).mono ?_); rintro e w4 ⟨cc, F4, S4, R4, rfl, i4, b4⟩; have I4 := Lib.hid i4; have B4 := Lib.hid b4; clear i4 b4)))
  go_wp2_with (fail)
  go_loopw [13] (fun v wr => ∃ i k x Z D F S R, i ≤ n ∧ v = .int .u64 ((i : Nat) : Int) ∧ Lv M C K N wr g s cc x [] Z D F S R ∧ Al n b i k x Z D ∧ Below N w wr) (fun v _ => n - (intOf v).toNat)
  case atStart => exact ⟨0, 0, _, _, _, F4, S4, R4, Nat.zero_le _, rfl, I4.out, AS.out, B4.out⟩
  case round =>
    obtain ⟨i, k, x, Z, D, F, S, R, hi, rfl, hI, hA, hB⟩ := hrel
    have HI := Lib.hid hI
    have HA := Lib.hid hA
    have BR := Lib.hid hB
    clear hI hA hB
    by_cases hlt : i < n
    · have t0 : (i : Int) < (n : Int) := by omega
      obtain ⟨d, ee, hd, d1, d2, d3, d4, d5, d6⟩ := quo_nums i b NB.out.2.2.1 (by have := NB.out; omega)
      have hb0 : ¬ (b : Int) = 0 := by have := NB.out; omega
      have hb1 : (0 : Int) < (b : Int) := by have := NB.out; omega
      have CT := Lib.hid (C4.out wr g s cc i k x Z D F S R BR.out HI.out HA.out hlt)
      have HLT := Lib.hid (show i + 1 ≤ n ∧ i + 1 ≤ 1000000 from ⟨hlt, by have := NB.out; omega⟩)
      obtain ⟨y1, y2⟩ := u64_small d (by omega)
      obtain ⟨y3, y4⟩ := u64_small ee (by omega)
      have W1 := Lib.hid (u64_small (i + 1) HLT.out.2)
      have HD4 := Lib.hid d4
      clear hlt hi hd d4 d5 d6
      go_wp2_with (first
        | (go_at_call 16; ((with_reducible refine CT.out.mono ?_); rintro e w5 ⟨F5, S5, R5, x5, Z5, D5, k5, rfl, l5, a5, n5, b5⟩; have L5 := Lib.hid l5; have A5 := Lib.hid a5; have N5 := Lib.hid (n5.trans HD4.out.symm); have B5 := Lib.hid b5; clear l5 a5 n5 b5))
        | (go_at_call 17; ((with_reducible refine (C5.out w5 g s cc x5 Z5 D5 F5 S5 R5 B5.out L5.out).mono ?_); rintro e w6 ⟨v6, rfl, l6, b6⟩; have L6 := Lib.hid l6; have B6 := Lib.hid b6; rw [N5.out]; clear l6 b6)))
      go_roundw
      case rel => exact ⟨i + 1, k5, x5, Z5, D5, F5, S5, R5, HLT.out.1, by first | rfl | (have h := W1.out.1; have h2 := W1.out.2; first | rw [← h] | rw [← h2]; rfl) | go_num, L6.out, A5.out, B6.out⟩
      case measure => have := HLT.out; simp [intOf]; omega
    · obtain rfl : i = n := by omega
      have t0 : ¬ (i : Int) < (i : Int) := by omega
      have fd2 := cn_fd2
      have fd3 := cn_fd3
      go_wp2_with (first
        | (go_at_call 18; ((with_reducible refine (C6.out wr g s cc x Z D F S R BR.out HI.out).mono ?_); rintro e w5 ⟨F5, p5, rfl, l5, b5⟩; have L5 := Lib.hid l5; have B5 := Lib.hid b5; clear l5 b5))
        | (go_at_call 16; ((with_reducible refine (C7.out w5 g s cc k x Z D F5 S R B5.out L5.out HA.out).mono ?_); rintro e w6 ⟨F6, S6, R6, rfl, l6, b6⟩; have L6 := Lib.hid l6; have B6 := Lib.hid b6; clear l6 b6))
        | (go_at_call 18; ((with_reducible refine (C6.out w6 g s cc x Z D F6 S6 R6 B6.out L6.out).mono ?_); rintro e w7 ⟨F7, p7, rfl, l7, b7⟩; have L7 := Lib.hid l7; have B7 := Lib.hid b7; clear l7 b7))
        | (go_at_call 19; ((with_reducible refine (C8.out w7 g s cc k x Z D F7 S6 R6 B7.out L7.out HA.out).mono ?_); rintro e w8 ⟨rfl, l8, b8⟩; have L8 := Lib.hid l8; have B8 := Lib.hid b8; clear l8 b8))
        | (go_at_call 19; ((with_reducible refine (C8.out w8 g s cc k x Z D F7 S6 R6 B8.out L8.out HA.out).mono ?_); rintro e w9 ⟨rfl, l9, b9⟩; have L9 := Lib.hid l9; have B9 := Lib.hid b9; clear l9 b9)))
      go_ret
      rw [HN.out]
      exact ⟨rfl, B9.out⟩
end Go.Proofs.YtnoflgkjdibblaaDoor.S21

/-
  The walk of one statement of layer 21, as its frame calls it.
-/
namespace Go.Proofs.YtnoflgkjdibblaaDoor.S21
set_option linter.unusedSimpArgs false
set_option linter.unusedVariables false
set_option maxRecDepth 4096
open Go.ChangeShapes Go.WideShapes Go.ChangeAt Go.RowKit Go.Joins S19 S20
theorem reserveAll_frame (W : World) (hk : C0.ok W) (a : Int) (wa : (Lit.int .u8 a).wf = true) (b : Int) (wb : (Lit.int .u8 b).wf = true) :
    Calls Tryd.prog 4 #[.int .u8 a, .int .u8 b] W fun e w' => e = .returned (.bool true) ∧ Below W.heap.size W w' := by
  obtain ⟨n, rfl, hn⟩ := nat_of_b21 wa
  obtain ⟨m, rfl, hm⟩ := nat_of_b21 wb
  exact reserveAll_walk M0 C0 K0 W hk n m hn hm
end Go.Proofs.YtnoflgkjdibblaaDoor.S21
