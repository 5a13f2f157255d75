/-
  Both disks, apart from one another; rows of rows compared. No statement is proved here.
-/
import Derived.Test.YtammgingmkdfhaaDkG
import Derived.Test.YtammgingmkdfhaaDkO
namespace Go.Proofs.Ytammgingmkdfhaa.S19
set_option linter.unusedSimpArgs false
set_option linter.unusedVariables false
set_option maxRecDepth 4096
open Go.RowKit

/-- Both disks, apart. -/
structure Two (M : DC) (N : Nat) (w : World) (g h : Nat) (L : Value) (D D2 : Dk) (F G : Nat → Prop) : Prop where
  is : M.Is N w g D F
  rk : Rk N w h L D2 G
  dj : ∀ b, F b → ¬ G b
section
variable {M : DC} {N : Nat} {w w' : World} {g h : Nat} {L L' : Value} {D D' D2 : Dk} {F F' G G' : Nat → Prop}
theorem Two.left (t : Two M N w g h L D D2 F G) (hI : M.Is N w' g D' F') (hs : ∀ b, F' b → F b ∨ w.heap.size ≤ b) (m : Mv N F w w') : Two M N w' g h L D' D2 F' G := by
  refine ⟨hI, t.rk.keep m.size fun b hb hl => m.same b hl fun hF => ?_, fun b hF hG => ?_⟩
  · rcases hb with q | q
    · have := (M.lt t.is b hF).1; omega
    · exact t.dj b hF q
  · rcases hs b hF with q | q
    · exact t.dj b q hG
    · have := (t.rk.lt b hG).2; omega
theorem Two.right (t : Two M N w g h L D D2 F G) (hR : Rk N w' h L' D' G') (hs : ∀ b, G' b → G b ∨ w.heap.size ≤ b) (m : Mv N G w w') : Two M N w' g h L' D D' F G' := by
  refine ⟨M.keep t.is m.size fun b hb hl => m.same b hl fun hG => ?_, hR, fun b hF hG => ?_⟩
  · rcases hb with q | q
    · have := (t.rk.lt b hG).1; omega
    · exact t.dj b q hG
  · rcases hs b hG with q | q
    · exact t.dj b hF q
    · have := (M.lt t.is b hF).2; omega
theorem Two.grow (t : Two M N w g h L D D2 F G) (hb : Below w.heap.size w w') : Two M N w' g h L D D2 F G := ⟨M.grow t.is hb, t.rk.grow hb, t.dj⟩
theorem Two.postL (t : Two M N w g h L D D2 F G) {v : Value} {e : Ending} (hp : Post M.Is N F g w D' v e w') : e = .returned v ∧ ∃ F', Two M N w' g h L D' D2 F' G ∧ Mv N F w w' := by
  obtain ⟨h1, F', h2, h3, h4⟩ := hp
  exact ⟨h1, F', t.left h2 h3 h4, h4⟩
theorem Two.postR (t : Two M N w g h L D D2 F G) {v : Value} {e : Ending} (hp : PostR N G h L w D' v e w') : e = .returned v ∧ ∃ G', Two M N w' g h L D D' F G' ∧ Mv N G w w' := by
  obtain ⟨h1, G', h2, h3, h4⟩ := hp
  exact ⟨h1, G', t.right h2 h3 h4, h4⟩
theorem Rk.lo (r : Rk N w h L D G) : N ≤ h ∧ G h := by
  obtain ⟨V, _, hr⟩ := r.ex
  exact ⟨(hr.gN h (hr.inG h (.inl rfl))).1, hr.inG h (.inl rfl)⟩
theorem Rk.off (r : Rk N w h L D G) : Rk N (w.setCell ⟨h, 7, none⟩ (.bool true)) h L D.halt G ∧ Mv N G w (w.setCell ⟨h, 7, none⟩ (.bool true)) := by
  obtain ⟨V, hb, hr⟩ := r.ex
  exact ⟨⟨Dk.halt_ok r.ok, V, hb.put 7 (.bool true), hr.poke 7 _⟩, Mv.poke r.lo.1 r.lo.2 _ _ _⟩
theorem Rk.plan (r : Rk N w h L D G) {A : Option Addr} {n c : Nat} {fs : List Int} {st : Int} (hf : ∀ X, Below N w X → RI X .i64 A n c fs) (hA : ∀ a, 0 < n → A = some a → a.block < N) :
    Rk N ((w.setCell ⟨h, 4, none⟩ (.slice A n c)).setCell ⟨h, 5, none⟩ (.int .i64 st)) h L (D.plan fs st) G ∧ Mv N G w ((w.setCell ⟨h, 4, none⟩ (.slice A n c)).setCell ⟨h, 5, none⟩ (.int .i64 st)) := by
  obtain ⟨V, hb, hr⟩ := r.ex
  have m := (Mv.poke r.lo.1 r.lo.2 w 4 (.slice A n c)).trans (Mv.poke r.lo.1 r.lo.2 _ 5 (.int .i64 st)) (fun b hb => .inl hb)
  have e := (hr.poke 4 (.slice A n c)).poke 5 (.int .i64 st)
  exact ⟨⟨Dk.plan_ok r.ok fs st, { V with AF := A, nF := n, cF := c }, (hb.put 4 (.slice A n c)).put 5 (.int .i64 st), e.plan (hf _ m.bel) fun a h1 h2 => ⟨.inl (hA a h1 h2), e.notSpine (hA a h1 h2)⟩⟩, m⟩
theorem Rk.cells (r : Rk N w h L D G) : ∃ V : RkV, Bk w h 42 #[L, V.vS, V.vW, V.vB, .slice V.AF V.nF V.cF, .int .i64 D.stop, .int .i64 (D.cnt : Int), .bool D.off] := by
  obtain ⟨V, hb, _⟩ := r.ex
  exact ⟨V, hb⟩
end
/-- A slice of rows reads so. -/
structure Rw (w : World) (A : Option Addr) (n : Nat) (xss : List (List UInt8)) : Prop where
  len : xss.length = n
  at_ : 0 < n → ∃ b off, A = some ⟨b, off, none⟩ ∧ b < w.heap.size ∧ ∀ j, j < n → ∃ A' m c', w.cell? ⟨b, off + j, none⟩ = some (.slice A' m c') ∧ Rd w A' m c' (xss.getD j [])
theorem Rw.below {w w' : World} {A : Option Addr} {n : Nat} {xss : List (List UInt8)} (r : Rw w A n xss) (hb : Below w.heap.size w w') : Rw w' A n xss :=
  ⟨r.len, fun hn => by
    obtain ⟨b, off, rfl, hl, hc⟩ := r.at_ hn
    refine ⟨b, off, rfl, Nat.lt_of_lt_of_le hl hb.size, fun j hj => ?_⟩
    obtain ⟨A', m, c', h1, h2⟩ := hc j hj
    exact ⟨A', m, c', (hb.cell (p := ⟨b, off + j, none⟩) hl).trans h1, h2.below hb⟩⟩
theorem Rs.rw {w : World} {S : Nat → Prop} {A : Option Addr} {n c : Nat} {xss : List (List UInt8)} (r : Rs w S A n c xss) : Rw w A n xss :=
  ⟨r.len, fun hn => by
    obtain ⟨b, off, rfl, hl, _, hc⟩ := r.at_ hn
    exact ⟨b, off, rfl, hl, fun j hj => by
      obtain ⟨A', m, c', h1, h2, _⟩ := hc j hj
      exact ⟨A', m, c', h1, h2⟩⟩⟩
theorem Rest.rw {N : Nat} {w : World} {h : Nat} {G : Nat → Prop} {V : RkV} {sure : List (List UInt8)} {zs : List Int} {rs : List (List UInt8)} {fails : List Int} (r : Rest N w h sure zs rs fails G V) {AS : Option Addr} {cS : Nat} (e : V.vS = .slice AS sure.length cS) : Rw w AS sure.length sure :=
  ⟨rfl, fun hn => by
    have oS := r.oS
    rw [e] at oS
    obtain ⟨b, rfl, hl, _, _⟩ := own_cellB oS hn
    refine ⟨b, 0, rfl, hl, fun j hj => ?_⟩
    obtain ⟨b', e', _, hc, _⟩ := own_cellB oS hj
    injection e' with e'
    injection e' with e'
    subst e'
    obtain ⟨A', m, c', h1, h2, _⟩ := r.rS j hj
    exact ⟨A', m, c', by rw [Nat.zero_add, hc]; exact h1, h2⟩⟩
set_option maxHeartbeats 4000000 in
theorem rall_any (A A' : Option Addr) (n c c' : Nat) (xss : List (List UInt8)) (w : World) (h1 : Rw w A n xss) (h2 : Rw w A' n xss) (hn : n ≤ 1099511627776) :
    Calls Try.prog 12 #[.slice A n c, .slice A' n c'] w fun e w' => e = .returned (.bool true) ∧ Below w.heap.size w w' := by
  have H1 := Lib.hid h1
  have H2 := Lib.hid h2
  obtain ⟨N, hN⟩ : ∃ N, w.heap.size = N := ⟨_, rfl⟩
  have HN := Lib.hid hN
  have HNL := Lib.hid hn
  clear h1 h2 hn
  go_enter Try.func12, Try.ntmps12
  go_wp2_with (fail)
  go_loopw [5] (fun iv wi => ∃ k : Nat, k ≤ n ∧ iv = .int .i64 (k : Int) ∧ Below N w wi) (fun iv _ => n - (intOf iv).toNat)
  case atStart => exact ⟨0, Nat.zero_le _, rfl, Below.refl _ _⟩
  case round =>
    obtain ⟨k, hk, rfl, hB⟩ := hrel
    have BR := Lib.hid hB
    have hm := HNL.out
    clear hB
    by_cases hlt : k < n
    · have t0 : (k : Int) < (n : Int) := by omega
      have q1 := H1.out.below (w' := wr) (by first | exact BR.out | (rw [HN.out]; exact BR.out))
      have q2 := H2.out.below (w' := wr) (by first | exact BR.out | (rw [HN.out]; exact BR.out))
      obtain ⟨b, off, rfl, hl, hc⟩ := q1.at_ (by omega)
      obtain ⟨b', off', rfl, hl', hc'⟩ := q2.at_ (by omega)
      obtain ⟨A1, m1, c1, e1, r1⟩ := hc k hlt
      obtain ⟨A2, m2, c2, e2, r2⟩ := hc' k hlt
      have R1 := Lib.hid r1
      have R2 := Lib.hid r2
      have GD := Lib.hid (Below.refl wr.heap.size wr).drew
      have KS := Lib.hid (show ∀ X : World, Below wr.heap.size wr X → X.cell? ⟨b, off + k, none⟩ = some (.slice A1 m1 c1) ∧ X.cell? ⟨b', off' + k, none⟩ = some (.slice A2 m2 c2) from fun X hX => ⟨(hX.cell (p := ⟨b, off + k, none⟩) hl).trans e1, (hX.cell (p := ⟨b', off' + k, none⟩) hl').trans e2⟩)
      clear q1 q2 hc hc' r1 r2 e1 e2 hl hl'
      go_upto_region 6 with (fail)
      (go_region_held3 (fun X => X.cell? ⟨b, off + k, none⟩ = some (.slice A1 m1 c1) ∧ X.cell? ⟨b', off' + k, none⟩ = some (.slice A2 m2 c2)) (first
        | exact KS.out _ GD.out
        | exact KS.out _ (GD.out.trans B3.out)) (first
        | (go_at_call 19; ((refine (rsame_true A1 A2 m1 c1 m2 c2 _ _ _ (R1.out.below GD.out) (R2.out.below GD.out) rfl).mono ?_); rintro e w3 ⟨rfl, b3⟩; have B3 := Lib.hid (b3.mono (Nat.le_refl _)); clear b3))
        | fail))
      have B4 := Lib.hid (show Below N w w3 from BR.out.trans ((GD.out.trans B3.out).mono (by have := BR.out.size; have := HN.out; omega)))
      go_wp2_with (fail)
      go_roundw
      case rel => exact ⟨k + 1, by omega, by go_num, B4.out⟩
      case measure => simp [intOf]; omega
    · have t0 : ¬ (k : Int) < (n : Int) := by omega
      go_wp2_with (fail)
      go_ret
      exact ⟨rfl, by first | exact BR.out | (rw [HN.out]; exact BR.out)⟩
end Go.Proofs.Ytammgingmkdfhaa.S19
