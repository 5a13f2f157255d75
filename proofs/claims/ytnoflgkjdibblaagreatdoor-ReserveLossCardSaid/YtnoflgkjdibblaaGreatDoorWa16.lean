/-
  Texts put together: Sl6, Sl8, Sl9, Rv2, SlA, Rv3. No statement is proved here.
-/
import Derived.Test.YtnoflgkjdibblaaGreatDoorWa15
import Derived.Test.YtnoflgkjdibblaaGreatDoorWa01
import Derived.Test.YtnoflgkjdibblaaGreatDoorWa02
import Derived.Test.YtnoflgkjdibblaaGreatDoorWa05
import Derived.RegionTactic
import Derived.ChangeAlike

/-
  The document's own slots on their disk, in memory. No statement is proved here.
-/
namespace Go.Proofs.YtnoflgkjdibblaaGreatDoor.S20
set_option linter.unusedSimpArgs false
set_option linter.unusedVariables false
set_option maxRecDepth 4096
open Go.RowKit S19

theorem Tryz.infoLay : (Tryz.prog.info? 135).map (fun i => (i.zero, i.size, i.bytes)) = some (some (.agg #[.int .i64 0, .slice none 0 0]), 2, 32) := by kernel_rfl
/-- append of one that was to lie somewhere, at a step. -/
theorem step_append_lay {w : World} {ops : Array Oper} {o : Oper} {a : Act} {K : Act → World → Prop} {Q : Exit → Act → World → Prop} {E : Prop} (hw : Region.wanted o (yielded ops a.tmps) = true) (s x : Operand)
    (ho : o.op = .call { callee := .builtin .append, args := #[s, x], argTypes := #[59, 59] })
    (base : Nat) (v : Value) (n : Nat) (vs : List Value) (hs : a.eval s = v) (hown : w.ownsRow base 135 2 v n vs)
    (b : Nat) (u0 u1 : Value) (hx : a.eval x = .slice (some ⟨b, 0, none⟩) 1 1) (hu0 : u0.oneCell' = true) (hu1 : u1.oneCell' = true) (hc0 : w.cell? ⟨b, 0, none⟩ = some u0) (hc1 : w.cell? ⟨b, 1, none⟩ = some u1) (hb : n + 1 ≤ 2000000000000) (hbase : base ≤ w.heap.size)
    (h : ∀ v' w', w'.ownsRow base 135 2 v' (n + 1) (vs ++ [u0, u1]) → w.grownBy w' v.ownBlock → (v'.ownBlock = v.ownBlock ∨ v'.ownBlock = some w.heap.size) → K (a.put o.dst v') w') :
    if Region.wanted o (yielded ops a.tmps) = true then Oper.wp Tryz.prog o a w K Q else E := by
  obtain ⟨i0, hi, hz0, hz1, hz2⟩ := info_parts Tryz.infoLay
  rw [if_pos hw]
  obtain ⟨v', w', hrun, h2, h3, _, h5⟩ := run_append_own_at (P := Tryz.prog) w base 59 o.type 135 i0 (.agg #[.int .i64 0, .slice none 0 0]) 2 32 Tryz.underlying59 hi hz0 hz1 hz2 rfl (by omega) v n vs hown ⟨b, 0, none⟩ 1 1 [u0, u1]
      (by simp) (fun j x hj => by
        match j, hj with
        | 0, hj => simp at hj; subst hj; simpa [Addr.add] using hc0
        | 1, hj => simp at hj; subst hj; simpa [Addr.add] using hc1
        | j + 2, hj => simp at hj) (fun x hx => by
          simp at hx
          rcases hx with rfl | rfl
          · exact hu0
          · exact hu1) (by simp only [maxLen]; omega) (by omega) hbase
  unfold Oper.wp
  simp [execOp, ho, resolve, invoke, builtin, hs, hx, hrun, Result.andThen]
  exact h v' w' h2 h3 h5
theorem own_formS {w : World} {B e size n : Nat} {v : Value} {xs : List Value} (h : w.ownsRow B e size v n xs) : ∃ (A : Option Addr) (c : Nat), v = .slice A n c := by
  rcases h.2 with ⟨rfl, rfl⟩ | ⟨g, cap, cur, rfl, _⟩
  · exact ⟨none, 0, rfl⟩
  · exact ⟨_, cap, rfl⟩
theorem wrap_nat (m : Nat) (h : m ≤ 1000000) : wrap64 (m : Int) = (m : Int) ∧ IntKind.i64.wrap (m : Int) = (m : Int) := by
  refine ⟨?_, IntWalk.i64_in _ (by omega)⟩
  unfold wrap64
  omega
theorem pn_of {tt n first at0 : Nat} (h : tt = 0 ∨ tt = 1) (hn : n ≤ 8) (hf : first + 2 * n ≤ 256) (ha : at0 = first + tt * n) : tt * n ≤ 8 ∧ at0 + n ≤ 256 := by
  rcases h with rfl | rfl
  · rw [ha]; omega
  · rw [ha]; omega
theorem hb_of {j n m6 c6 at0 lj aj : Nat} (hlt : j < n) (hn8 : n ≤ 8) (hm : m6 = 64 * n) (hp : at0 + n ≤ 256) (hc : m6 ≤ c6) (hl : lj = 64 * j) (ha : aj = at0 + j) : lj + 64 ≤ c6 ∧ lj + 64 ≤ m6 ∧ lj + 64 ≤ 1000000 ∧ lj ≤ 1000000 ∧ aj ≤ 1000000 ∧ 0 < m6 := by omega
theorem cnt_of {a b j n : Nat} (h1 : a ≤ b + j) (h2 : b < 1099511627000) (h3 : j < n) (h4 : n ≤ 8) : a < 1099511627776 := by omega
theorem cnt_of2 {a b j : Nat} (h1 : a ≤ b + j) (h2 : b < 1099511627000) (h3 : j ≤ 8) : a < 1099511627776 := by omega
theorem at_of {m : Nat} (h : m ≤ 1) : (m : Int) = -1 ∨ (m : Int) = 0 ∨ (m : Int) = 1 := by omega
theorem small_of {j n : Nat} (h3 : j < n) (h4 : n ≤ 8) : j + 1 ≤ 9223372036854775807 := by omega
theorem add_block (a : Addr) (k : Nat) : (a.add k).block = a.block := by
  simp only [Addr.add]
  split <;> rfl
/-- What was to be laid. -/
structure Ld (N : Nat) (w : World) (L : Value) (k : Nat) (T : Nat → Prop) : Prop where
  own : ∃ vs, w.ownsRow N 135 2 L k vs
  at_ : ∀ b, L.ownBlock = some b → T b
  lt : ∀ b, T b → N ≤ b ∧ b < w.heap.size
theorem Ld.nil (N : Nat) (w : World) : Ld N w (.slice none 0 0) 0 (fun _ => False) := ⟨⟨[], World.ownsRow_nil _ _ _ _⟩, fun b e => by simp [Value.ownBlock] at e, fun b e => e.elim⟩
theorem Ld.keep {N : Nat} {w w' : World} {L : Value} {k : Nat} {T : Nat → Prop} (r : Ld N w L k T) (hs : w.heap.size ≤ w'.heap.size) (hk : ∀ b, T b → w'.heap[b]? = w.heap[b]?) : Ld N w' L k T := by
  obtain ⟨vs, h⟩ := r.own
  exact ⟨⟨vs, own_keepH h fun b e _ => hk b (r.at_ b e)⟩, r.at_, fun b hb => ⟨(r.lt b hb).1, Nat.lt_of_lt_of_le (r.lt b hb).2 hs⟩⟩
theorem rk_setL {N : Nat} {w : World} {h : Nat} {L : Value} {D : Dk} {G : Nat → Prop} (r : Rk N w h L D G) (v : Value) : Rk N (w.setCell ⟨h, 0, none⟩ v) h v D G ∧ Mv N G w (w.setCell ⟨h, 0, none⟩ v) := by
  obtain ⟨V, hb, hr⟩ := r.ex
  exact ⟨⟨r.ok, V, hb.put 0 v, hr.poke 0 v⟩, Mv.poke r.lo.1 r.lo.2 _ _ _⟩
/-- The document's own disk and slots, apart. -/
structure Qs (N : Nat) (w : World) (h q : Nat) (L : Value) (k : Nat) (D : Dk) (Z : Sl) (G S T : Nat → Prop) : Prop where
  rk : Rk N w h L D G
  rz : Rz N w q h Z S
  ld : Ld N w L k T
  zo : Z.Ok D
  gs : ∀ b, G b → ¬ S b
  gt : ∀ b, G b → ¬ T b
  st : ∀ b, S b → ¬ T b
abbrev Or3 (G S T : Nat → Prop) : Nat → Prop := fun b => G b ∨ S b ∨ T b
theorem Rz.lt2 {N : Nat} {w : World} {q h : Nat} {Z : Sl} {S : Nat → Prop} (r : Rz N w q h Z S) : q < w.heap.size := (r.lt q r.at_).2
section
variable {N : Nat} {w w' : World} {h q k : Nat} {L L' : Value} {D D' : Dk} {Z Z' : Sl} {G G' S S' T T' : Nat → Prop}
theorem Qs.lt (t : Qs N w h q L k D Z G S T) : ∀ b, Or3 G S T b → N ≤ b ∧ b < w.heap.size := by
  rintro b (e | e | e)
  · exact t.rk.lt b e
  · exact t.rz.lt b e
  · exact t.ld.lt b e
/-- The disk has moved. -/
theorem Qs.disk (t : Qs N w h q L k D Z G S T) (hR : Rk N w' h L D' G') (hs : ∀ b, G' b → G b ∨ w.heap.size ≤ b) (m : Mv N G w w') (hl : D'.sure.length = D.sure.length) : Qs N w' h q L k D' Z G' S T := by
  refine ⟨hR, t.rz.keep m.size fun b hb => m.same b (t.rz.lt b hb).2 fun hG => t.gs b hG hb, t.ld.keep m.size fun b hb => m.same b (t.ld.lt b hb).2 fun hG => t.gt b hG hb, ⟨t.zo.one, t.zo.most, by rw [hl]; exact t.zo.fits, t.zo.at_, t.zo.num⟩, fun b hG hS => ?_, fun b hG hT => ?_, t.st⟩
  · rcases hs b hG with e | e
    · exact t.gs b e hS
    · have := (t.rz.lt b hS).2; omega
  · rcases hs b hG with e | e
    · exact t.gt b e hT
    · have := (t.ld.lt b hT).2; omega
/-- Nothing of theirs has moved. -/
theorem Qs.grow (t : Qs N w h q L k D Z G S T) (hb : Below w.heap.size w w') : Qs N w' h q L k D Z G S T :=
  ⟨t.rk.grow hb, t.rz.keep hb.size fun b e => hb.block b (t.rz.lt b e).2, t.ld.keep hb.size fun b e => hb.block b (t.ld.lt b e).2, t.zo, t.gs, t.gt, t.st⟩
/-- The slots alone have moved. -/
theorem Qs.slots (t : Qs N w h q L k D Z G S T) (hZ : Rz N w' q h Z' S') (hs : ∀ b, S' b → S b ∨ w.heap.size ≤ b) (m : Mv N S w w') (ho : Z'.Ok D) : Qs N w' h q L k D Z' G S' T := by
  refine ⟨t.rk.keep m.size fun b hb hl => m.same b hl fun hS => ?_, hZ, t.ld.keep m.size fun b hb => m.same b (t.ld.lt b hb).2 fun hS => t.st b hS hb, ho, fun b hG hS => ?_, t.gt, fun b hS hT => ?_⟩
  · rcases hb with e | e
    · have := (t.rz.lt b hS).1; omega
    · exact t.gs b e hS
  · rcases hs b hS with e | e
    · exact t.gs b hG e
    · have := (t.rk.lt b hG).2; omega
  · rcases hs b hS with e | e
    · exact t.st b e hT
    · have := (t.ld.lt b hT).2; omega
theorem rk_loN (r : Rk N w h L D G) : N ≤ w.heap.size := by
  obtain ⟨V, _, hr⟩ := r.ex
  exact hr.lo
/-- One more was to be laid. -/
theorem lay_step {wl w8 : World} (t : Qs N w h q L k D Z G S T) (hb : Below w.heap.size w wl) {vs : List Value} {v8 : Value} (ho : w8.ownsRow N 135 2 v8 (k + 1) vs) (hg : wl.grownBy w8 L.ownBlock) (hv : v8.ownBlock = L.ownBlock ∨ v8.ownBlock = some wl.heap.size) :
    Qs N (w8.setCell ⟨h, 0, none⟩ v8) h q v8 (k + 1) D Z G S (fun b => T b ∨ v8.ownBlock = some b) ∧ Mv N (Or3 G (fun x => x = q) T) w (w8.setCell ⟨h, 0, none⟩ v8) ∧ (∀ b, (T b ∨ v8.ownBlock = some b) → T b ∨ w.heap.size ≤ b) := by
  have hN := (rk_loN t.rk)
  have hbs := hb.size
  have m8 : Mv N T w w8 := ⟨(hb.mono hN).grown hg (Nat.le_trans hN hb.size) fun b e => (t.ld.lt b (t.ld.at_ b e)).1, fun b hl hT => grown_keep hb hg b hl fun e => hT (t.ld.at_ b e)⟩
  have hnew : ∀ b, v8.ownBlock = some b → T b ∨ w.heap.size ≤ b := fun b e => by
    rcases hv with hv | hv
    · exact .inl (t.ld.at_ b (hv ▸ e))
    · rw [hv] at e
      have := Option.some.inj e
      exact .inr (by omega)
  have rk8 : Rk N w8 h L D G := t.rk.keep m8.size fun b hb hl => m8.same b hl fun hT => by
    rcases hb with e | e
    · have := (t.ld.lt b hT).1; omega
    · exact t.gt b e hT
  have rz8 : Rz N w8 q h Z S := t.rz.keep m8.size fun b hS => m8.same b (t.rz.lt b hS).2 fun hT => t.st b hS hT
  obtain ⟨rk9, m9⟩ := rk_setL rk8 v8
  have hh : ∀ b, b ≠ h → (w8.setCell ⟨h, 0, none⟩ v8).heap[b]? = w8.heap[b]? := fun b hb => Below.heap_setCell w8 ⟨h, 0, none⟩ v8 b hb
  have hs9 : w8.heap.size ≤ (w8.setCell ⟨h, 0, none⟩ v8).heap.size := by simp
  have hG := t.rk.lo.2
  have hhl := (t.rk.lt h hG).2
  refine ⟨⟨rk9, rz8.keep hs9 fun b hS => hh b fun e => t.gs h hG (e ▸ hS), ⟨⟨vs, own_keepH ho fun b e _ => hh b fun e' => ?_⟩, fun b e => .inr e, ?_⟩, t.zo, t.gs, ?_, ?_⟩, ?_, ?_⟩
  · subst e'
    rcases hnew _ e with q | q
    · exact t.gt _ hG q
    · omega
  · rintro b (e | e)
    · exact ⟨(t.ld.lt b e).1, Nat.lt_of_lt_of_le (t.ld.lt b e).2 (Nat.le_trans m8.size hs9)⟩
    · refine ⟨?_, Nat.lt_of_lt_of_le (ho.lt b e).2 hs9⟩
      rcases hnew b e with q | q
      · exact (t.ld.lt b q).1
      · omega
  · rintro b hGb (e | e)
    · exact t.gt b hGb e
    · rcases hnew b e with q | q
      · exact t.gt b hGb q
      · have := (t.rk.lt b hGb).2; omega
  · rintro b hSb (e | e)
    · exact t.st b hSb e
    · rcases hnew b e with q | q
      · exact t.st b hSb q
      · have := (t.rz.lt b hSb).2; omega
  · exact (m8.mono (F' := Or3 G (fun x => x = q) T) fun b e => .inr (.inr e)).trans (m9.mono (F' := Or3 G (fun x => x = q) T) fun b e => .inl e) fun b e => .inl e
  · rintro b (e | e)
    · exact .inl e
    · exact hnew b e
/-- Of the slots' memory their own block alone is written. -/
theorem slots_setQ {w8 : World} (t : Qs N w h q L k D Z G S T) {a : Int} {nx nb c8 : Nat} {A8 : Option Addr} (hb : Below w.heap.size ((w.setCell ⟨q, 3, none⟩ (.int .i64 a)).setCell ⟨q, 4, none⟩ (.int .u64 (nx : Int))) w8) : Mv N (fun x => x = q) w (w8.setCell ⟨q, 5, none⟩ (.slice A8 nb c8)) := by
  have hNq := (t.rz.lt q t.rz.at_).1
  have b4 : Below N w ((w.setCell ⟨q, 3, none⟩ (.int .i64 a)).setCell ⟨q, 4, none⟩ (.int .u64 (nx : Int))) := ((Below.refl _ _).setCell (p := ⟨q, 3, none⟩) hNq _).setCell (p := ⟨q, 4, none⟩) hNq _
  refine ⟨(b4.trans (hb.mono (Nat.le_trans (rk_loN t.rk) (Nat.le_refl _)))).setCell (p := ⟨q, 5, none⟩) hNq _, fun x hx hne => ?_⟩
  exact (Below.heap_setCell _ ⟨q, 5, none⟩ _ x hne).trans ((hb.block x hx).trans ((Below.heap_setCell _ ⟨q, 4, none⟩ _ x hne).trans (Below.heap_setCell _ ⟨q, 3, none⟩ _ x hne)))
/-- What counts is another record. -/
theorem slots_set {w8 : World} (t : Qs N w h q L k D Z G S T) {a : Int} {nx nb c8 : Nat} {A8 : Option Addr} {b : List UInt8} (hb : Below w.heap.size ((w.setCell ⟨q, 3, none⟩ (.int .i64 a)).setCell ⟨q, 4, none⟩ (.int .u64 (nx : Int))) w8) (hr : Rd w8 A8 nb c8 b) (hA : ∀ x, 0 < nb → A8 = some x → w.heap.size ≤ x.block) (ha : a = -1 ∨ a = 0 ∨ a = 1) (hnx : nx < 18446744073709551616) :
    Qs N (w8.setCell ⟨q, 5, none⟩ (.slice A8 nb c8)) h q L k D { Z with at_ := a, num := nx, b := b } G (fun x => S x ∨ ∃ y, 0 < nb ∧ A8 = some y ∧ y.block = x) T ∧ Mv N S w (w8.setCell ⟨q, 5, none⟩ (.slice A8 nb c8)) ∧ (∀ x, (S x ∨ ∃ y, 0 < nb ∧ A8 = some y ∧ y.block = x) → S x ∨ w.heap.size ≤ x) := by
  obtain rfl : b.length = nb := hr.len
  obtain ⟨A9, c9, hq, _, _⟩ := t.rz.ex
  have hql := t.rz.lt2
  have hSq := t.rz.at_
  have hNq := (t.rz.lt q hSq).1
  have h4 : ∀ x, x ≠ q → ((w.setCell ⟨q, 3, none⟩ (.int .i64 a)).setCell ⟨q, 4, none⟩ (.int .u64 (nx : Int))).heap[x]? = w.heap[x]? := fun x hx => (Below.heap_setCell _ ⟨q, 4, none⟩ _ x hx).trans (Below.heap_setCell _ ⟨q, 3, none⟩ _ x hx)
  have h5 : ∀ x, x ≠ q → (w8.setCell ⟨q, 5, none⟩ (.slice A8 b.length c8)).heap[x]? = w8.heap[x]? := fun x hx => Below.heap_setCell _ ⟨q, 5, none⟩ _ x hx
  have hs8 : w.heap.size ≤ w8.heap.size := by have := hb.size; simp at this; exact this
  have hs9 : w8.heap.size ≤ (w8.setCell ⟨q, 5, none⟩ (.slice A8 b.length c8)).heap.size := by simp
  have hq4 := (hq.put 3 (.int .i64 a)).put 4 (.int .u64 (nx : Int))
  have hq8 := hq4.below hb hql
  have hq9 := hq8.put 5 (.slice A8 b.length c8)
  have hne : ∀ x, 0 < b.length → A8 = some x → x.block ≠ q := fun x h1 h2 e => by have := hA x h1 h2; omega
  have hsame : ∀ x, x < w.heap.size → x ≠ q → (w8.setCell ⟨q, 5, none⟩ (.slice A8 b.length c8)).heap[x]? = w.heap[x]? := fun x hx hn => (h5 x hn).trans ((hb.block x hx).trans (h4 x hn))
  have m : Mv N S w (w8.setCell ⟨q, 5, none⟩ (.slice A8 b.length c8)) := by
    refine ⟨?_, fun x hx hS => hsame x hx fun e => hS (e ▸ hSq)⟩
    have b4 : Below N w ((w.setCell ⟨q, 3, none⟩ (.int .i64 a)).setCell ⟨q, 4, none⟩ (.int .u64 (nx : Int))) := ((Below.refl _ _).setCell (p := ⟨q, 3, none⟩) hNq _).setCell (p := ⟨q, 4, none⟩) hNq _
    exact (b4.trans (hb.mono (Nat.le_trans (rk_loN t.rk) (Nat.le_refl _)))).setCell (p := ⟨q, 5, none⟩) hNq _
  have hg : ∀ x, (S x ∨ ∃ y, 0 < b.length ∧ A8 = some y ∧ y.block = x) → S x ∨ w.heap.size ≤ x := by
    rintro x (e | ⟨y, h1, h2, rfl⟩)
    · exact .inl e
    · exact .inr (hA y h1 h2)
  refine ⟨t.slots ⟨⟨A8, c8, hq9, rd_farB hr (fun x h1 h2 => hne x h1 h2) 5 _, fun x h1 h2 => ⟨.inr ⟨x, h1, h2, rfl⟩, hne x h1 h2⟩⟩, .inl hSq, ?_⟩ hg m ⟨t.zo.one, t.zo.most, t.zo.fits, ha, hnx⟩, m, hg⟩
  rintro x (e | ⟨y, h1, h2, rfl⟩)
  · exact ⟨(t.rz.lt x e).1, Nat.lt_of_lt_of_le (t.rz.lt x e).2 (Nat.le_trans hs8 hs9)⟩
  · refine ⟨Nat.le_trans (rk_loN t.rk) (hA y h1 h2), Nat.lt_of_lt_of_le ?_ hs9⟩
    obtain ⟨bb, off, e, hbb, _⟩ := hr.at_ h1
    rw [h2] at e
    injection e with e
    subst e
    exact hbb
end
end Go.Proofs.YtnoflgkjdibblaaGreatDoor.S20

/-
  What the calls of package slots are to do, as one structure; what holds of slots behind a call. No statement is proved here.
-/
namespace Go.Proofs.YtnoflgkjdibblaaGreatDoor.S20
set_option linter.unusedSimpArgs false
set_option linter.unusedVariables false
set_option maxRecDepth 4096
open Go.RowKit S19

theorem look_ok (Z : Sl) (D : Dk) {i : Nat} (hi : i ≤ 1) {z : Int × Nat × List UInt8} (h : (z.1 = -1 ∨ z.1 = 0 ∨ z.1 = 1) ∧ z.2.1 < 18446744073709551616) : ((Z.look D i z).1 = -1 ∨ (Z.look D i z).1 = 0 ∨ (Z.look D i z).1 = 1) ∧ (Z.look D i z).2.1 < 18446744073709551616 := by
  unfold Sl.look
  split
  · exact ⟨at_of hi, whole_lt _ _⟩
  · exact h
theorem seen_ok (Z : Sl) (D : Dk) : ((Z.seen D).1 = -1 ∨ (Z.seen D).1 = 0 ∨ (Z.seen D).1 = 1) ∧ (Z.seen D).2.1 < 18446744073709551616 :=
  look_ok Z D (Nat.le_refl _) (look_ok Z D (Nat.zero_le _) ⟨.inl rfl, by show 0 < _; omega⟩)
theorem load_ok {Z : Sl} {D : Dk} (h : Z.Ok D) : (Z.load D).Ok D := by
  unfold Sl.load
  split
  · exact h
  · exact ⟨h.one, h.most, h.fits, (seen_ok Z D).1, (seen_ok Z D).2⟩
theorem load_n (Z : Sl) (D : Dk) : (Z.load D).n = Z.n ∧ (Z.load D).first = Z.first := by unfold Sl.load; split <;> exact ⟨rfl, rfl⟩
theorem writes_len (at_ : Nat) (xs : List UInt8) : ∀ (k j : Nat) (D : Dk), (Sl.writes at_ xs k j D).2.sure.length = D.sure.length
  | 0, j, D => rfl
  | k + 1, j, D => by
    unfold Sl.writes
    have hw : (D.write ((at_ + j : Nat) : Int) (Sl.row xs j)).sure.length = D.sure.length := by
      unfold Dk.write
      split
      · rfl
      · split
        · split
          · show D.step.sure.length = _
            rw [Dk.step_sure]
          · rw [Dk.step_sure]
        · rfl
    split
    · rw [writes_len at_ xs k, hw]
    · exact hw
theorem saveD_len (Z : Sl) (D : Dk) (b : List UInt8) : (Z.saveD D b).sure.length = D.sure.length := by
  unfold Sl.saveD
  split
  · rfl
  · split
    · have h := writes_len (Z.first + Z.goes * Z.n) (recB Z.next b Z.n) Z.n 0 D
      have e : ∀ E : Dk, E.flush.sure.length = E.sure.length := fun E => by
        unfold Dk.flush
        split
        · rfl
        · split
          · exact Dk.laid_len _ _
          · rw [Dk.step_sure]
      rw [e]
      exact h
    · exact writes_len _ _ _ _ _
theorem save_ok {Z : Sl} {D : Dk} (h : Z.Ok D) (b : List UInt8) : (Z.save D b).Ok (Z.saveD D b) := by
  have hl := saveD_len Z D b
  unfold Sl.save
  split
  · refine ⟨h.one, h.most, by rw [hl]; exact h.fits, ?_, Nat.mod_lt _ (by omega)⟩
    show (Z.goes : Int) = -1 ∨ _
    unfold Sl.goes
    split <;> simp
  · exact ⟨h.one, h.most, by rw [hl]; exact h.fits, h.at_, h.num⟩
theorem save_n (Z : Sl) (D : Dk) (b : List UInt8) : (Z.save D b).n = Z.n ∧ (Z.save D b).first = Z.first := by unfold Sl.save; split <;> exact ⟨rfl, rfl⟩
theorem new_ok {D : Dk} {first n : Nat} (h : may D.sure.length first n = true) : (Sl.new first n).Ok D := by
  have h' := of_decide_eq_true h
  exact ⟨by show 1 ≤ n; omega, by show n ≤ 8; omega, by show first + 2 * n ≤ _; omega, .inl rfl, by show 0 < _; omega⟩
abbrev Or2 (F S : Nat → Prop) : Nat → Prop := fun b => F b ∨ S b
/-- The calls of package slots, over a disk. -/
structure SlC (M : DC) where
  ok : World → Prop
  bel : ∀ {w w' : World}, ok w → Below w.heap.size w w' → ok w'
  okM : ∀ {w : World}, ok w → M.ok w
  Is : Nat → World → Nat → Nat → Sl → (Nat → Prop) → Prop
  lt : ∀ {N : Nat} {w : World} {s g : Nat} {Z : Sl} {S : Nat → Prop}, Is N w s g Z S → ∀ b, S b → N ≤ b ∧ b < w.heap.size
  keep : ∀ {N : Nat} {w w' : World} {s g : Nat} {Z : Sl} {S : Nat → Prop}, Is N w s g Z S → w.heap.size ≤ w'.heap.size → (∀ b, (b < N ∨ S b) → b < w.heap.size → w'.heap[b]? = w.heap[b]?) → Is N w' s g Z S
  room : ∀ (w : World) (n : Int), -9223372036854775808 ≤ n → n < 9223372036854775808 → ok w → Calls Tryz.prog 56 #[.int .i64 n] w fun e w' => e = .returned (.int .i64 (room n : Int)) ∧ Below w.heap.size w w'
  new : ∀ (N : Nat) (w : World) (g : Nat) (D : Dk) (F : Nat → Prop) (first n : Nat), ok w → M.Is N w g D F → may D.sure.length first n = true → Calls Tryz.prog 8 #[.pointer (some ⟨g, 0, none⟩), .int .i64 (first : Int), .int .i64 (n : Int)] w fun e w' =>
    ∃ s S F', e = .returned (.tuple #[.pointer (some ⟨s, 0, none⟩), .int .i64 0]) ∧ Is N w' s g (Sl.new first n) S ∧ M.Is N w' g D F' ∧ (∀ b, S b → w.heap.size ≤ b) ∧ (∀ b, F' b → F b ∨ w.heap.size ≤ b) ∧ (∀ b, F' b → ¬ S b) ∧ Mv N F w w'
  newNot : ∀ (N : Nat) (w : World) (g : Nat) (D : Dk) (F : Nat → Prop) (first n : Int), -9223372036854775808 ≤ first → first < 9223372036854775808 → -9223372036854775808 ≤ n → n < 9223372036854775808 → ok w → M.Is N w g D F → may D.sure.length first n = false → Calls Tryz.prog 8 #[.pointer (some ⟨g, 0, none⟩), .int .i64 first, .int .i64 n] w fun e w' =>
    e = .returned (.tuple #[.pointer none, .int .i64 1]) ∧ ∃ F', M.Is N w' g D F' ∧ (∀ b, F' b → F b ∨ w.heap.size ≤ b) ∧ Mv N F w w'
  now : ∀ (N : Nat) (w : World) (s g : Nat) (Z : Sl) (S : Nat → Prop), ok w → Is N w s g Z S → Calls Tryz.prog 54 #[.pointer (some ⟨s, 0, none⟩)] w fun e w' =>
    ∃ A c, e = .returned (.tuple #[.slice A Z.b.length c, .int .u64 (Z.num : Int)]) ∧ Rd w' A Z.b.length c Z.b ∧ (∀ a, 0 < Z.b.length → A = some a → w.heap.size ≤ a.block) ∧ Is N w' s g Z S ∧ Mv N S w w'
  load : ∀ (N : Nat) (w : World) (s g : Nat) (D : Dk) (Z : Sl) (F S : Nat → Prop), ok w → M.Is N w g D F → Is N w s g Z S → (∀ b, F b → ¬ S b) → Z.Ok D → Calls Tryz.prog 34 #[.pointer (some ⟨s, 0, none⟩)] w fun e w' =>
    ∃ A c F' S', e = .returned (.tuple #[.slice A (Z.loadB D).length c, .int .u64 (Z.loadN D : Int), .int .i64 (Z.loadC D : Int)]) ∧ Rd w' A (Z.loadB D).length c (Z.loadB D) ∧ (∀ a, 0 < (Z.loadB D).length → A = some a → w.heap.size ≤ a.block ∧ ¬ Or2 F' S' a.block) ∧ M.Is N w' g D F' ∧ Is N w' s g (Z.load D) S' ∧ (∀ b, Or2 F' S' b → Or2 F S b ∨ w.heap.size ≤ b) ∧ (∀ b, F' b → ¬ S' b) ∧ Mv N (Or2 F S) w w'
  save : ∀ (N : Nat) (w : World) (s g : Nat) (D : Dk) (Z : Sl) (F S : Nat → Prop) (A : Option Addr) (n c : Nat) (b : List UInt8), ok w → M.Is N w g D F → Is N w s g Z S → (∀ b, F b → ¬ S b) → Z.Ok D → Rd w A n c b → (∀ a, 0 < n → A = some a → ¬ Or2 F S a.block) → D.cnt < 1099511627000 → Calls Tryz.prog 35 #[.pointer (some ⟨s, 0, none⟩), .slice A n c] w fun e w' =>
    e = .returned (.int .i64 (Z.saveC D b : Int)) ∧ ∃ F' S', M.Is N w' g (Z.saveD D b) F' ∧ Is N w' s g (Z.save D b) S' ∧ (∀ b, Or2 F' S' b → Or2 F S b ∨ w.heap.size ≤ b) ∧ (∀ b, F' b → ¬ S' b) ∧ Mv N (Or2 F S) w w'
end Go.Proofs.YtnoflgkjdibblaaGreatDoor.S20

/-
  What is saved on a disk with which nothing fails, in plain words. No statement is proved here.
-/
namespace Go.Proofs.YtnoflgkjdibblaaGreatDoor.S20
set_option linter.unusedSimpArgs false
set_option linter.unusedVariables false
open S19

/-- A disk that is up, and with which nothing fails. -/
structure Calm (D : Dk) : Prop where
  off : D.off = false
  stop : D.stop = 0
  fails : D.fails = []
theorem Calm.new (k : Nat) : Calm (Dk.new k) := ⟨rfl, rfl, rfl⟩
theorem Calm.code {D : Dk} (h : Calm D) : D.stepC = 0 := by
  unfold Dk.stepC
  rw [if_neg (by rw [h.off]; simp), if_neg (by rw [h.stop]; omega), if_neg (by rw [h.fails]; simp)]
theorem Calm.step {D : Dk} (h : Calm D) : D.step = { D with cnt := D.cnt + 1 } := by
  unfold Dk.step
  rw [if_neg (by rw [h.stop]; omega)]
theorem Calm.more {D : Dk} (h : Calm D) (s : List (List UInt8)) (p : List (Nat × List UInt8)) (c : Nat) : Calm { D with sure := s, pend := p, cnt := c } := ⟨h.off, h.stop, h.fails⟩
theorem Calm.write {D : Dk} (h : Calm D) {i : Nat} {b : List UInt8} (hi : i < D.sure.length) (hb : b.length = 64) : D.writeC (i : Int) b = 0 ∧ D.write (i : Int) b = { D with cnt := D.cnt + 1, pend := D.pend ++ [(i, b)] } := by
  have hh : D.has (i : Int) ∧ b.length = 64 := ⟨by unfold Dk.has; omega, hb⟩
  have ho : ¬ D.off = true := by rw [h.off]; simp
  constructor
  · rw [Dk.writeC, if_neg ho, if_pos hh, h.code]
  · rw [Dk.write, if_neg ho, if_pos hh, if_pos h.code, h.step]
    rfl
/-- The rows from the j-th on, k of them, where they go. -/
def rowsP (at_ : Nat) (xs : List UInt8) : Nat → Nat → List (Nat × List UInt8)
  | _, 0 => []
  | j, k + 1 => (at_ + j, Sl.row xs j) :: rowsP at_ xs (j + 1) k
theorem row_len {xs : List UInt8} {j : Nat} (h : 64 * (j + 1) ≤ xs.length) : (Sl.row xs j).length = 64 := by simp [Sl.row]; omega
theorem writes_calm (at_ : Nat) (xs : List UInt8) : ∀ (k j : Nat) (D : Dk), Calm D → at_ + j + k ≤ D.sure.length → 64 * (j + k) ≤ xs.length → Sl.writes at_ xs k j D = (0, { D with cnt := D.cnt + k, pend := D.pend ++ rowsP at_ xs j k })
  | 0, j, D, h, _, _ => by simp [Sl.writes, rowsP]
  | k + 1, j, D, h, h1, h2 => by
    obtain ⟨e1, e2⟩ := h.write (i := at_ + j) (b := Sl.row xs j) (by omega) (row_len (by omega))
    rw [Sl.writes, if_pos e1, e2, writes_calm at_ xs k (j + 1) _ (h.more _ _ _) (by show at_ + (j + 1) + k ≤ D.sure.length; omega) (by omega)]
    simp [rowsP, Nat.add_comm 1, Nat.add_assoc]
theorem laid_rowsP (at_ : Nat) (xs : List UInt8) (i : Nat) : ∀ (k j : Nat) (s : List (List UInt8)), at_ + j + k ≤ s.length → (Dk.laid (rowsP at_ xs j k) s).getD i [] = if at_ + j ≤ i ∧ i < at_ + j + k then Sl.row xs (i - at_) else s.getD i []
  | 0, j, s, _ => by rw [if_neg (by omega)]; rfl
  | k + 1, j, s, h => by
    rw [rowsP, Dk.laid, laid_rowsP at_ xs i k (j + 1) _ (by rw [List.length_set]; omega)]
    by_cases h1 : at_ + (j + 1) ≤ i ∧ i < at_ + (j + 1) + k
    · rw [if_pos h1, if_pos (by omega)]
    · rw [if_neg h1]
      by_cases h2 : i = at_ + j
      · subst h2
        rw [if_pos (by omega), List.getD_eq_getElem?_getD, List.getElem?_set_self (by omega)]
        show Sl.row xs j = _
        congr 1
        omega
      · rw [if_neg (by omega), List.getD_eq_getElem?_getD, List.getElem?_set_ne (by omega), ← List.getD_eq_getElem?_getD]
theorem areaK_rows {D : Dk} {at_ : Nat} {xs : List UInt8} : ∀ k, (∀ i, i < k → D.atS (at_ + i) = Sl.row xs i) → Sl.areaK D at_ k = xs.take (64 * k)
  | 0, _ => by simp [Sl.areaK]
  | k + 1, h => by
    rw [Sl.areaK, areaK_rows k (fun i hi => h i (by omega)), h k (by omega), Sl.row, show 64 * (k + 1) = 64 * k + 64 by omega, List.take_add]
theorem areaK_same {D D' : Dk} {at_ : Nat} : ∀ k, (∀ i, i < k → D.atS (at_ + i) = D'.atS (at_ + i)) → Sl.areaK D at_ k = Sl.areaK D' at_ k
  | 0, _ => rfl
  | k + 1, h => by rw [Sl.areaK, Sl.areaK, areaK_same k (fun i hi => h i (by omega)), h k (by omega)]
/-- Saved where nothing is pending, and nothing fails. -/
theorem save_calm {Z : Sl} {D : Dk} {b : List UInt8} (hD : Calm D) (hp : D.pend = []) (hZ : Z.Ok D) (hb : b.length ≤ room Z.n) :
    Z.saveC D b = 0 ∧ Z.save D b = { Z with at_ := (Z.goes : Int), num := Z.next, b := b } ∧ Calm (Z.saveD D b) ∧ (Z.saveD D b).pend = [] ∧ (Z.saveD D b).cnt = D.cnt + Z.n + 1 ∧ Z.area (Z.saveD D b) Z.goes = recB Z.next b Z.n ∧ Z.area (Z.saveD D b) (1 - Z.goes) = Z.area D (1 - Z.goes) := by
  have hr := room_nat hZ.one hZ.most
  have h1 := hZ.one
  have hl : (recB Z.next b Z.n).length = 64 * Z.n := recB_len _ _ _ (by omega)
  have hg : Z.goes = 0 ∨ Z.goes = 1 := by unfold Sl.goes; split <;> simp
  have hfit : Z.first + Z.goes * Z.n + Z.n ≤ D.sure.length := by
    have := hZ.fits
    rcases hg with e | e <;> rw [e] <;> omega
  obtain ⟨xs, hxs⟩ : ∃ xs, xs = recB Z.next b Z.n := ⟨_, rfl⟩
  rw [← hxs] at hl ⊢
  have hw : Z.written D b = (0, { D with cnt := D.cnt + Z.n, pend := rowsP (Z.first + Z.goes * Z.n) xs 0 Z.n }) := by
    rw [Sl.written, ← hxs, writes_calm _ _ _ _ _ hD (by omega) (by omega), hp, List.nil_append]
  have hc2 : Calm { D with cnt := D.cnt + Z.n, pend := rowsP (Z.first + Z.goes * Z.n) xs 0 Z.n } := ⟨hD.off, hD.stop, hD.fails⟩
  have hC : Z.saveC D b = 0 := by rw [Sl.saveC, if_neg (by omega), hw, if_pos rfl]; exact hc2.code
  have hSD : Z.saveD D b = { D with cnt := D.cnt + Z.n + 1, sure := Dk.laid (rowsP (Z.first + Z.goes * Z.n) xs 0 Z.n) D.sure, pend := [] } := by
    rw [Sl.saveD, if_neg (by omega), hw, if_pos rfl]
    show Dk.flush _ = _
    rw [Dk.flush, if_neg (by show ¬ D.off = true; rw [hD.off]; simp), if_pos hc2.code, hc2.step]
  have hat : ∀ i, (Z.saveD D b).atS i = if Z.first + Z.goes * Z.n ≤ i ∧ i < Z.first + Z.goes * Z.n + Z.n then Sl.row xs (i - (Z.first + Z.goes * Z.n)) else D.sure.getD i [] := fun i => by
    rw [hSD]
    show (Dk.laid _ D.sure).getD i [] = _
    rw [laid_rowsP _ _ _ _ _ _ (by omega)]
    rfl
  refine ⟨hC, by rw [Sl.save, if_pos hC], by rw [hSD]; exact ⟨hD.off, hD.stop, hD.fails⟩, by rw [hSD], by rw [hSD], ?_, ?_⟩
  · rw [Sl.area, areaK_rows (xs := xs) Z.n (fun i hi => by rw [hat, if_pos (by omega)]; congr 1; omega), ← hl, List.take_of_length_le (Nat.le_refl _)]
  · rw [Sl.area, Sl.area]
    refine areaK_same Z.n fun i hi => ?_
    rw [hat, if_neg (by rcases hg with e | e <;> rw [e] <;> omega), Dk.atS, hp]
    rfl
/-- What is loaded of two areas that are known. -/
theorem seen_of {Z : Sl} {D : Dk} {a0 a1 : Nat × List UInt8} (h0 : whole (Z.area D 0) Z.n = a0) (h1 : whole (Z.area D 1) Z.n = a1) : Z.seen D = if a0.1 < a1.1 then (1, a1) else if 0 < a0.1 then (0, a0) else (-1, 0, []) := by
  have e0 : Z.look D 0 (-1, 0, []) = if 0 < a0.1 then ((0 : Int), a0) else (-1, 0, []) := by
    rw [Sl.look, h0]; rfl
  rw [Sl.seen, e0, Sl.look, h1]
  by_cases q : 0 < a0.1
  · rw [if_pos q]
    by_cases q2 : a0.1 < a1.1
    · rw [if_pos q2, if_pos q2]; rfl
    · rw [if_neg q2, if_neg q2]
  · rw [if_neg q]
    by_cases q2 : a0.1 < a1.1
    · rw [if_pos q2, if_pos (by show 0 < a1.1; omega)]; rfl
    · rw [if_neg q2, if_neg (by show ¬ 0 < a1.1; omega)]
theorem getL_zero : ∀ n, getL (List.replicate n 0) = 0
  | 0 => rfl
  | n + 1 => by rw [List.replicate_succ, getL_cons, getL_zero n]; simp
theorem whole_zero (m n : Nat) : whole (List.replicate m 0) n = (0, []) := by
  unfold whole
  refine if_neg fun h => h.1 ?_
  unfold numOf
  rw [List.take_replicate, getL_zero]
theorem area_zero {D : Dk} {at_ : Nat} : ∀ k, (∀ i, i < k → D.atS (at_ + i) = List.replicate 64 0) → Sl.areaK D at_ k = List.replicate (64 * k) 0
  | 0, _ => rfl
  | k + 1, h => by
    rw [Sl.areaK, area_zero k (fun i hi => h i (by omega)), h k (by omega), List.replicate_append_replicate]
    congr 1
theorem atS_new {k i : Nat} (h : i < k) : (Dk.new k).atS i = List.replicate 64 0 := by
  simp [Dk.atS, Dk.new, Dk.lastOf, List.getD, h]
theorem area_new {k : Nat} {Z : Sl} (h : Z.first + 2 * Z.n ≤ k) {i : Nat} (hi : i ≤ 1) : Z.area (Dk.new k) i = List.replicate (64 * Z.n) 0 := by
  refine area_zero Z.n fun j hj => atS_new ?_
  have h0 : i = 0 ∨ i = 1 := by omega
  rcases h0 with rfl | rfl <;> omega
/-- Nothing was saved on a new disk. -/
theorem load_new {k : Nat} {Z : Sl} (h : Z.first + 2 * Z.n ≤ k) (h1 : Z.at_ = -1) (h2 : Z.num = 0) (h3 : Z.b = []) : Z.loadC (Dk.new k) = 11 ∧ Z.load (Dk.new k) = Z := by
  have a0 := area_new h (i := 0) (by omega)
  have a1 := area_new h (i := 1) (by omega)
  have hs : Z.seen (Dk.new k) = (-1, 0, []) := by
    rw [seen_of (a0 := (0, [])) (a1 := (0, [])) (by rw [a0]; exact whole_zero _ _) (by rw [a1]; exact whole_zero _ _)]
    rfl
  have ho : ¬ (Dk.new k).off = true := by simp [Dk.new]
  constructor
  · rw [Sl.loadC, if_neg ho, hs, if_pos (by decide), if_pos (by rw [a0]; simp [blank])]
  · rw [Sl.load, if_neg ho, hs]
    cases Z
    simp only at h1 h2 h3
    subst h1 h2 h3
    rfl
/-- What was saved is loaded. -/
theorem load_saved {Z : Sl} {D : Dk} {b : List UInt8} (hD : Calm D) (hp : D.pend = []) (hZ : Z.Ok D) (hb : b.length ≤ room Z.n) (hn : Z.num + 1 < 18446744073709551616) (ho : (whole (Z.area D (1 - Z.goes)) Z.n).1 ≤ Z.num) (Y : Sl) (hy : Y.first = Z.first ∧ Y.n = Z.n) :
    Y.loadC (Z.saveD D b) = 0 ∧ Y.load (Z.saveD D b) = { Z with at_ := (Z.goes : Int), num := Z.num + 1, b := b } := by
  obtain ⟨s1, s2, s3, s4, s5, s6, s7⟩ := save_calm hD hp hZ hb
  have hx : Z.next = Z.num + 1 := Nat.mod_eq_of_lt hn
  rw [hx] at s6
  have hw := whole_rec (num := Z.num + 1) (by omega) hn hZ.one hZ.most hb
  have hY : ∀ i, Y.area (Z.saveD D b) i = Z.area (Z.saveD D b) i := fun i => by rw [Sl.area, Sl.area, hy.1, hy.2]
  have hg : Z.goes = 0 ∨ Z.goes = 1 := by unfold Sl.goes; split <;> simp
  have hs : Y.seen (Z.saveD D b) = ((Z.goes : Int), Z.num + 1, b) := by
    rcases hg with e | e
    · rw [e] at s6 s7 ho
      rw [seen_of (a0 := (Z.num + 1, b)) (a1 := whole (Z.area D (1 - 0)) Z.n) (by rw [hY, hy.2, s6]; exact hw) (by rw [hY, hy.2]; rw [show (1 : Nat) = 1 - 0 from rfl, s7]), if_neg (by show ¬ Z.num + 1 < _; omega), if_pos (by show 0 < Z.num + 1; omega), e]
      rfl
    · rw [e] at s6 s7 ho
      rw [seen_of (a1 := (Z.num + 1, b)) (a0 := whole (Z.area D (1 - 1)) Z.n) (by rw [hY, hy.2]; rw [show (0 : Nat) = 1 - 1 from rfl, s7]) (by rw [hY, hy.2, s6]; exact hw), if_pos (by show _ < Z.num + 1; omega), e]
      rfl
  have hoff : ¬ (Z.saveD D b).off = true := by rw [s3.off]; simp
  constructor
  · rw [Sl.loadC, if_neg hoff, hs, if_neg (by show ¬ (Z.goes : Int) < 0; omega)]
  · rw [Sl.load, if_neg hoff, hs]
    cases Y
    cases Z
    simp only at hy
    obtain ⟨rfl, rfl⟩ := hy
    rfl
end Go.Proofs.YtnoflgkjdibblaaGreatDoor.S20

/-
  Numbers that are given out once, in plain words, over slots and a disk. No statement is proved here.
-/
namespace Go.Proofs.YtnoflgkjdibblaaGreatDoor.S21
set_option linter.unusedSimpArgs false
set_option linter.unusedVariables false
open S19 (Dk)
open S20 (Sl)
namespace Cn
/-- A batch more is reserved, but no more than the total. -/
def more (x : Cn) : Cn := { x with res := if x.tot < x.res + x.bat then x.tot else x.res + x.bat }
def next (x : Cn) : Cn := { x with nxt := x.nxt + 1 }
/-- Must the counter be saved, ahead of a number's being given out? -/
def must (x : Cn) : Bool := !x.gone && (decide (x.nxt < x.tot) && decide (x.res ≤ x.nxt))
def takeC (x : Cn) (h : List UInt8) (Z : Sl) (D : Dk) : Nat := if x.gone = true then 13 else if x.tot ≤ x.nxt then 9 else if x.res ≤ x.nxt then Z.saveC D (x.more.row h) else 0
def takeN (x : Cn) (h : List UInt8) (Z : Sl) (D : Dk) : Nat := if x.takeC h Z D = 0 then x.nxt else 0
def take (x : Cn) (h : List UInt8) (Z : Sl) (D : Dk) : Cn := if x.takeC h Z D = 0 then (if x.must = true then x.more.next else x.next) else x
def takeZ (x : Cn) (h : List UInt8) (Z : Sl) (D : Dk) : Sl := if x.must = true then Z.save D (x.more.row h) else Z
def takeD (x : Cn) (h : List UInt8) (Z : Sl) (D : Dk) : Dk := if x.must = true then Z.saveD D (x.more.row h) else D
def dead (x : Cn) : Cn := { x with gone := true }
def retC (x : Cn) (h : List UInt8) (Z : Sl) (D : Dk) : Nat := if x.gone = true then 0 else Z.saveC D (x.dead.row h)
def ret (x : Cn) (h : List UInt8) (Z : Sl) (D : Dk) : Cn := if x.retC h Z D = 0 then x.dead else x
def retZ (x : Cn) (h : List UInt8) (Z : Sl) (D : Dk) : Sl := if x.gone = true then Z else Z.save D (x.dead.row h)
def retD (x : Cn) (h : List UInt8) (Z : Sl) (D : Dk) : Dk := if x.gone = true then D else Z.saveD D (x.dead.row h)
/-- A new one. -/
def fresh (tot bat : Nat) : Cn := ⟨tot, bat, 0, 0, false⟩
def newC (tot bat : Nat) (h : List UInt8) (Z : Sl) (D : Dk) : Nat :=
  if (fresh tot bat).May h.length then (if Z.loadC D = 0 then 10 else if Z.loadC D = 11 then (Z.load D).saveC D ((fresh tot bat).row h) else Z.loadC D) else 1
def newZ (tot bat : Nat) (h : List UInt8) (Z : Sl) (D : Dk) : Sl :=
  if (fresh tot bat).May h.length then (if Z.loadC D = 11 then (Z.load D).save D ((fresh tot bat).row h) else Z.load D) else Z
def newD (tot bat : Nat) (h : List UInt8) (Z : Sl) (D : Dk) : Dk :=
  if (fresh tot bat).May h.length then (if Z.loadC D = 11 then (Z.load D).saveD D ((fresh tot bat).row h) else D) else D
def openC (Z : Sl) (D : Dk) : Nat := if Z.loadC D = 0 then readC (Z.loadB D) else Z.loadC D
def openX (Z : Sl) (D : Dk) : Cn := ofB (Z.loadB D)
def openH (Z : Sl) (D : Dk) : List UInt8 := (Z.loadB D).drop 25
/-- What holds of every one that is open. -/
structure Ok (x : Cn) (n : Nat) : Prop where
  may : x.May n
  le : x.nxt ≤ x.res
theorem Ok.fit {x : Cn} {n : Nat} (h : x.Ok n) : x.Fit := may_fit h.may (by have := h.may; unfold May at this; have := h.le; omega)
theorem fresh_ok {tot bat n : Nat} (h : (fresh tot bat).May n) : (fresh tot bat).Ok n := ⟨h, Nat.le_refl _⟩
theorem more_may {x : Cn} {n : Nat} (h : x.May n) : x.more.May n := by
  unfold May more at *
  simp only
  split <;> omega
theorem more_fit {x : Cn} {n : Nat} (h : x.Ok n) : x.more.Fit := may_fit (more_may h.may) h.fit.nxt
theorem take_ok {x : Cn} {n : Nat} (h : x.Ok n) (hd : List UInt8) (Z : Sl) (D : Dk) : (x.take hd Z D).Ok n := by
  unfold take
  split
  · rename_i h0
    have hm := h.may
    have hl := h.le
    have hg : ¬ x.gone = true ∧ ¬ x.tot ≤ x.nxt := by
      unfold takeC at h0
      split at h0
      · omega
      split at h0
      · omega
      exact ⟨by assumption, by assumption⟩
    unfold May at hm
    split
    · rename_i hmu
      have hr : x.res ≤ x.nxt := by
        simp [must] at hmu
        exact hmu.2.2
      refine ⟨?_, ?_⟩
      · exact more_may h.may
      · show x.nxt + 1 ≤ (if x.tot < x.res + x.bat then x.tot else x.res + x.bat)
        split <;> omega
    · rename_i hmu
      have hr : ¬ x.res ≤ x.nxt := fun e => hmu (by
        simp [must]
        exact ⟨by simpa using hg.1, by omega, e⟩)
      exact ⟨h.may, show x.nxt + 1 ≤ x.res by omega⟩
  · exact h
theorem ret_ok {x : Cn} {n : Nat} (h : x.Ok n) (hd : List UInt8) (Z : Sl) (D : Dk) : (x.ret hd Z D).Ok n := by
  unfold ret
  split
  · exact ⟨h.may, h.le⟩
  · exact h
theorem open_ok {Z : Sl} {D : Dk} (h : openC Z D = 0) : (openX Z D).Ok (openH Z D).length ∧ (openX Z D).Fit := by
  have hr : readC (Z.loadB D) = 0 := by
    unfold openC at h
    split at h
    · exact h
    · omega
  refine ⟨⟨?_, Nat.le_refl _⟩, ofB_fit _⟩
  unfold readC at hr
  split at hr
  · omega
  split at hr
  · omega
  rename_i h2
  have : ¬ ¬ (ofB (Z.loadB D)).May ((Z.loadB D).length - 25) := fun e => h2 (.inr e)
  have h3 := Decidable.not_not.1 this
  unfold openX openH
  rw [List.length_drop]
  exact h3
end Cn
end Go.Proofs.YtnoflgkjdibblaaGreatDoor.S21

/-
  The landed disk and slots together; the statements' first question of layer 20, over the contracts. No statement is proved here. (Written by gensla.py.)
-/
namespace Go.Proofs.YtnoflgkjdibblaaGreatDoor.S20
set_option linter.unusedSimpArgs false
set_option linter.unusedVariables false
set_option maxRecDepth 4096
open Go.RowKit S19

/-- 'string(b)' of bytes that read. -/
theorem rd_convert {w : World} {A : Option Addr} {n c : Nat} {xs : List UInt8} (h : Rd w A n c xs) :
    (convert 23 9 (.slice A n c)).run Tryz.prog w = .ok (.string ⟨xs.toArray⟩) w := by
  rcases Nat.eq_zero_or_pos n with hn | hn
  · subst hn
    obtain rfl : xs = [] := List.eq_nil_of_length_eq_zero h.len
    rw [run_convert_bytes_string w 23 9 5 _ 0 c Tryz.underlying23 Tryz.underlying5 Tryz.underlying9]
    cases A <;> simp [Conv.bytesToString, loadCells]
    all_goals rfl
  · obtain ⟨b, o, rfl, _, hc⟩ := h.at_ hn
    have e := run_convert_bytes_arg (P := Tryz.prog) w 23 5 Tryz.underlying23 Tryz.underlying5 b o n c (xs.map fun x => (x.toNat : Int)) (by simp [h.len])
      (fun i hi => by
        have hl : i < xs.length := by have := h.len; omega
        rw [hc i hi]; simp [List.getD, hl]) 9 Tryz.underlying9
    rw [e]
    have : strOfNums (xs.map fun x => (x.toNat : Int)) = ⟨xs.toArray⟩ := by
      simp [strOfNums, Function.comp_def]
    rw [this]
/-- The landed disk and slots, apart. -/
structure Lz (M : DC) (C : SlC M) (N : Nat) (w : World) (g s : Nat) (D : Dk) (Z : Sl) (F S : Nat → Prop) : Prop where
  is : M.Is N w g D F
  sl : C.Is N w s g Z S
  dj : ∀ b, F b → ¬ S b
  zo : Z.Ok D
section
variable {M : DC} {C : SlC M} {N : Nat} {w w' : World} {g s : Nat} {D : Dk} {Z : Sl} {F S : Nat → Prop}
theorem Lz.grow (t : Lz M C N w g s D Z F S) (hb : Below w.heap.size w w') : Lz M C N w' g s D Z F S :=
  ⟨M.keep t.is hb.size fun b _ hl => hb.block b hl, C.keep t.sl hb.size fun b _ hl => hb.block b hl, t.dj, t.zo⟩
/-- The disk alone has moved. -/
theorem Lz.disk (t : Lz M C N w g s D Z F S) {D' : Dk} {F' : Nat → Prop} (hI : M.Is N w' g D' F') (hs : ∀ b, F' b → F b ∨ w.heap.size ≤ b) (m : Mv N F w w') (hl : D'.sure.length = D.sure.length) : Lz M C N w' g s D' Z F' S := by
  refine ⟨hI, C.keep t.sl m.size fun b hb hlt => m.same b hlt fun hF => ?_, fun b hF hS => ?_, ⟨t.zo.one, t.zo.most, by rw [hl]; exact t.zo.fits, t.zo.at_, t.zo.num⟩⟩
  · rcases hb with e | e
    · have := (M.lt t.is b hF).1; omega
    · exact t.dj b hF e
  · rcases hs b hF with e | e
    · exact t.dj b e hS
    · have := (C.lt t.sl b hS).2; omega
theorem Lz.now (t : Lz M C N w g s D Z F S) (hk : C.ok w) : Calls Tryz.prog 54 #[.pointer (some ⟨s, 0, none⟩)] w fun e w' => ∃ A c, e = .returned (.tuple #[.slice A Z.b.length c, .int .u64 (Z.num : Int)]) ∧ Rd w' A Z.b.length c Z.b ∧ (∀ a, 0 < Z.b.length → A = some a → ¬ Or2 F S a.block) ∧ Lz M C N w' g s D Z F S ∧ Below N w w' :=
  (C.now N w s g Z S hk t.sl).mono fun e w' ⟨A, c, h1, h2, h0, h3, h4⟩ => ⟨A, c, h1, h2, fun a q1 q2 hO => hO.elim (fun e => by have q3 := h0 a q1 q2; have := (M.lt t.is _ e).2; omega) (fun e => by have q3 := h0 a q1 q2; have := (C.lt t.sl _ e).2; omega), ⟨M.keep t.is h4.size fun b hb hl => h4.same b hl fun hS => (by
    rcases hb with e | e
    · have := (C.lt t.sl b hS).1; omega
    · exact t.dj b e hS), h3, t.dj, t.zo⟩, h4.bel⟩
theorem Lz.load (t : Lz M C N w g s D Z F S) (hk : C.ok w) : Calls Tryz.prog 34 #[.pointer (some ⟨s, 0, none⟩)] w fun e w' => ∃ A c F' S', e = .returned (.tuple #[.slice A (Z.loadB D).length c, .int .u64 (Z.loadN D : Int), .int .i64 (Z.loadC D : Int)]) ∧ Rd w' A (Z.loadB D).length c (Z.loadB D) ∧ (∀ a, 0 < (Z.loadB D).length → A = some a → ¬ Or2 F' S' a.block) ∧ Lz M C N w' g s D (Z.load D) F' S' ∧ (∀ b, Or2 F' S' b → Or2 F S b ∨ w.heap.size ≤ b) ∧ Mv N (Or2 F S) w w' :=
  (C.load N w s g D Z F S hk t.is t.sl t.dj t.zo).mono fun e w' ⟨A, c, F', S', h1, h2, h0, h3, h4, h5, h6, h7⟩ => ⟨A, c, F', S', h1, h2, fun a q1 q2 => (h0 a q1 q2).2, ⟨h3, h4, h6, load_ok t.zo⟩, h5, h7⟩
theorem Lz.save (t : Lz M C N w g s D Z F S) (hk : C.ok w) {A : Option Addr} {n c : Nat} {b : List UInt8} (hr : Rd w A n c b) (hA : ∀ a, 0 < n → A = some a → ¬ Or2 F S a.block) (hc : D.cnt < 1099511627000) : Calls Tryz.prog 35 #[.pointer (some ⟨s, 0, none⟩), .slice A n c] w fun e w' => e = .returned (.int .i64 (Z.saveC D b : Int)) ∧ ∃ F' S', Lz M C N w' g s (Z.saveD D b) (Z.save D b) F' S' ∧ (∀ b, Or2 F' S' b → Or2 F S b ∨ w.heap.size ≤ b) ∧ Mv N (Or2 F S) w w' :=
  (C.save N w s g D Z F S A n c b hk t.is t.sl t.dj t.zo hr hA hc).mono fun e w' ⟨h1, F', S', h2, h3, h4, h5, h6⟩ => ⟨h1, F', S', ⟨h2, h3, h5, save_ok t.zo b⟩, h4, h6⟩
theorem Lz.lt (t : Lz M C N w g s D Z F S) : ∀ b, Or2 F S b → N ≤ b ∧ b < w.heap.size := by
  rintro b (e | e)
  · exact M.lt t.is b e
  · exact C.lt t.sl b e
end
def abc : List UInt8 := [97, 98, 99]
theorem aw_facts : (Sl.new 0 2).loadC (Dk.new 4) = 11 ∧ (Sl.new 0 2).load (Dk.new 4) = Sl.new 0 2 ∧ (Sl.new 0 2).saveC (Dk.new 4) abc = 0 ∧ (Sl.new 0 2).save (Dk.new 4) abc = ⟨0, 2, 0, 1, abc⟩ ∧ (⟨0, 2, 0, 1, abc⟩ : Sl).loadC ((Sl.new 0 2).saveD (Dk.new 4) abc) = 0 ∧ (⟨0, 2, 0, 1, abc⟩ : Sl).load ((Sl.new 0 2).saveD (Dk.new 4) abc) = ⟨0, 2, 0, 1, abc⟩ := by
  have hZ : (Sl.new 0 2).Ok (Dk.new 4) := new_ok (first := 0) (n := 2) (by rfl)
  obtain ⟨h1, h2⟩ := load_new (k := 4) (Z := Sl.new 0 2) (by show 0 + 2 * 2 ≤ 4; omega) rfl rfl rfl
  have hb : abc.length ≤ room (Sl.new 0 2).n := by decide
  obtain ⟨h3, h4, _⟩ := save_calm (Calm.new 4) rfl hZ hb
  have ho : (whole ((Sl.new 0 2).area (Dk.new 4) (1 - (Sl.new 0 2).goes)) (Sl.new 0 2).n).1 ≤ (Sl.new 0 2).num := by
    rw [area_new (k := 4) (Z := Sl.new 0 2) (by show 0 + 2 * 2 ≤ 4; omega) (by omega), whole_zero]
    exact Nat.zero_le _
  obtain ⟨h5, h6⟩ := load_saved (Calm.new 4) rfl hZ hb (by show 0 + 1 < _; omega) ho ⟨0, 2, 0, 1, abc⟩ ⟨rfl, rfl⟩
  exact ⟨h1, h2, h3, h4, h5, h6⟩
end Go.Proofs.YtnoflgkjdibblaaGreatDoor.S20

/-
  What the calls of package reserve are to do, as one structure, over slots and a disk. No statement is proved here.
-/
namespace Go.Proofs.YtnoflgkjdibblaaGreatDoor.S21
set_option linter.unusedSimpArgs false
set_option linter.unusedVariables false
set_option maxRecDepth 4096
open Go.RowKit S19 S20

/-- The calls of package reserve, over slots and a disk. -/
structure RvC (M : DC) (C : SlC M) where
  ok : World → Prop
  bel : ∀ {w w' : World}, ok w → Below w.heap.size w w' → ok w'
  okC : ∀ {w : World}, ok w → C.ok w
  Is : Nat → World → Nat → Nat → Cn → List UInt8 → (Nat → Prop) → Prop
  lt : ∀ {N : Nat} {w : World} {c s : Nat} {x : Cn} {h : List UInt8} {R : Nat → Prop}, Is N w c s x h R → ∀ b, R b → N ≤ b ∧ b < w.heap.size
  keep : ∀ {N : Nat} {w w' : World} {c s : Nat} {x : Cn} {h : List UInt8} {R : Nat → Prop}, Is N w c s x h R → w.heap.size ≤ w'.heap.size → (∀ b, (b < N ∨ R b) → b < w.heap.size → w'.heap[b]? = w.heap[b]?) → Is N w' c s x h R
  read : ∀ (w : World) (A : Option Addr) (n c : Nat) (b : List UInt8), ok w → Rd w A n c b → n ≤ 100000 → Calls Tryz.prog 46 #[.slice A n c] w fun e w' =>
    ∃ A' c', e = .returned (.tuple #[.agg (Cn.readX b).cells, .slice A' (Cn.readH b).length c', .int .i64 (Cn.readC b : Int)]) ∧ Rd w' A' (Cn.readH b).length c' (Cn.readH b) ∧ Below w.heap.size w w'
  new : ∀ (N : Nat) (w : World) (s g : Nat) (D : Dk) (Z : Sl) (F S : Nat → Prop) (A : Option Addr) (n c : Nat) (h : List UInt8) (tot bat : Nat), (∀ X, Below N w X → ok X) → Lz M C N w g s D Z F S → Rd w A n c h → (∀ a, 0 < n → A = some a → ¬ Or2 F S a.block) → D.cnt < 1099511600000 → tot < 18446744073709551616 → bat < 18446744073709551616 → n ≤ 100000 →
    Calls Tryz.prog 10 #[.pointer (some ⟨s, 0, none⟩), .slice A n c, .int .u64 (tot : Int), .int .u64 (bat : Int)] w fun e w' =>
    ∃ p F' S', e = .returned (.tuple #[.pointer p, .int .i64 (Cn.newC tot bat h Z D : Int)]) ∧ (Cn.newC tot bat h Z D ≠ 0 → p = none) ∧ (Cn.newC tot bat h Z D = 0 → ∃ cc R, p = some ⟨cc, 0, none⟩ ∧ Is N w' cc s (Cn.fresh tot bat) h R ∧ (∀ b, R b → w.heap.size ≤ b) ∧ (∀ b, R b → ¬ Or2 F' S' b)) ∧
      Lz M C N w' g s (Cn.newD tot bat h Z D) (Cn.newZ tot bat h Z D) F' S' ∧ (∀ b, Or2 F' S' b → Or2 F S b ∨ w.heap.size ≤ b) ∧ Mv N (Or2 F S) w w'
  opn : ∀ (N : Nat) (w : World) (s g : Nat) (D : Dk) (Z : Sl) (F S : Nat → Prop), ok w → Lz M C N w g s D Z F S → Calls Tryz.prog 21 #[.pointer (some ⟨s, 0, none⟩)] w fun e w' =>
    ∃ p F' S', e = .returned (.tuple #[.pointer p, .int .i64 (Cn.openC Z D : Int)]) ∧ (Cn.openC Z D ≠ 0 → p = none) ∧ (Cn.openC Z D = 0 → ∃ cc R, p = some ⟨cc, 0, none⟩ ∧ Is N w' cc s (Cn.openX Z D) (Cn.openH Z D) R ∧ (∀ b, R b → w.heap.size ≤ b) ∧ (∀ b, R b → ¬ Or2 F' S' b)) ∧
      Lz M C N w' g s D (Z.load D) F' S' ∧ (∀ b, Or2 F' S' b → Or2 F S b ∨ w.heap.size ≤ b) ∧ Mv N (Or2 F S) w w'
  take : ∀ (N : Nat) (w : World) (cc s g : Nat) (x : Cn) (h : List UInt8) (D : Dk) (Z : Sl) (F S R : Nat → Prop), ok w → Lz M C N w g s D Z F S → Is N w cc s x h R → (∀ b, R b → ¬ Or2 F S b) → x.Ok h.length → D.cnt < 1099511600000 → Calls Tryz.prog 13 #[.pointer (some ⟨cc, 0, none⟩)] w fun e w' =>
    ∃ F' S' R', e = .returned (.tuple #[.int .u64 (x.takeN h Z D : Int), .int .i64 (x.takeC h Z D : Int)]) ∧ Lz M C N w' g s (x.takeD h Z D) (x.takeZ h Z D) F' S' ∧ Is N w' cc s (x.take h Z D) h R' ∧ (∀ b, R' b → ¬ Or2 F' S' b) ∧ (∀ b, Or3 F' S' R' b → Or3 F S R b ∨ w.heap.size ≤ b) ∧ Mv N (Or3 F S R) w w'
  head : ∀ (N : Nat) (w : World) (cc s : Nat) (x : Cn) (h : List UInt8) (R : Nat → Prop), ok w → Is N w cc s x h R → Calls Tryz.prog 27 #[.pointer (some ⟨cc, 0, none⟩)] w fun e w' =>
    ∃ A c, e = .returned (.slice A h.length c) ∧ w'.ownsRow w.heap.size 5 1 (.slice A h.length c) h.length (bv h) ∧ Below w.heap.size w w'
  state : ∀ (N : Nat) (w : World) (cc s : Nat) (x : Cn) (h : List UInt8) (R : Nat → Prop), ok w → Is N w cc s x h R → Calls Tryz.prog 25 #[.pointer (some ⟨cc, 0, none⟩)] w fun e w' => e = .returned (.agg x.cells) ∧ Below w.heap.size w w'
/-- And Retire, which one seat alone reaches. -/
structure RvT (M : DC) (C : SlC M) extends RvC M C where
  ret : ∀ (N : Nat) (w : World) (cc s g : Nat) (x : Cn) (h : List UInt8) (D : Dk) (Z : Sl) (F S R : Nat → Prop), ok w → Lz M C N w g s D Z F S → Is N w cc s x h R → (∀ b, R b → ¬ Or2 F S b) → x.Ok h.length → D.cnt < 1099511600000 → Calls Tryz.prog 15 #[.pointer (some ⟨cc, 0, none⟩)] w fun e w' =>
    ∃ F' S' R', e = .returned (.int .i64 (x.retC h Z D : Int)) ∧ Lz M C N w' g s (x.retD h Z D) (x.retZ h Z D) F' S' ∧ Is N w' cc s (x.ret h Z D) h R' ∧ (∀ b, R' b → ¬ Or2 F' S' b) ∧ (∀ b, Or3 F' S' R' b → Or3 F S R b ∨ w.heap.size ≤ b) ∧ Mv N (Or3 F S R) w w'
end Go.Proofs.YtnoflgkjdibblaaGreatDoor.S21
