/-
  Texts put together: Sl10, SlA, SlL1, SlL3. No statement is proved here.
-/
import Derived.Test.YtnoflgkjdibblaaGreatDoorWb14
import Derived.Test.YtnoflgkjdibblaaGreatDoorWb07
import Derived.Test.YtnoflgkjdibblaaGreatDoorWb13
import Derived.Test.YtnoflgkjdibblaaGreatDoorWb01
import Derived.Test.YtnoflgkjdibblaaGreatDoorWb05
import Derived.RegionTactic
import Derived.ChangeAlike

/-
  The document's own slots: what counts is loaded. No statement is proved here. (Written by gensl10.py.)
-/
namespace Go.Proofs.YtnoflgkjdibblaaGreatDoor.S20
set_option linter.unusedSimpArgs false
set_option linter.unusedVariables false
set_option maxRecDepth 4096
open Go.RowKit S19

/-- What a call of Load comes to. -/
def PostL (N : Nat) (h q k : Nat) (L : Value) (D : Dk) (Z : Sl) (G S T : Nat → Prop) (w : World) (e : Ending) (w' : World) : Prop :=
  ∃ A c S', e = .returned (.tuple #[.slice A (Z.loadB D).length c, .int .u64 (Z.loadN D : Int), .int .i64 (Z.loadC D : Int)]) ∧ Rd w' A (Z.loadB D).length c (Z.loadB D) ∧ (∀ a, 0 < (Z.loadB D).length → A = some a → S' a.block ∧ a.block ≠ q) ∧ Qs N w' h q L k D (Z.load D) G S' T ∧ (∀ b, S' b → S b ∨ w.heap.size ≤ b) ∧ Mv N (fun x => x = q) w w'
/-- What has been looked at. -/
def zz (Z : Sl) (D : Dk) : Nat → Int × Nat × List UInt8
  | 0 => (-1, 0, [])
  | i + 1 => Z.look D i (zz Z D i)
def em (Z : Sl) (D : Dk) : Nat → Bool
  | 0 => false
  | i + 1 => em Z D i || blank (Z.area D i) Z.n
theorem area_len {N : Nat} {w : World} {h q k : Nat} {L : Value} {D : Dk} {Z : Sl} {G S T : Nat → Prop} (t : Qs N w h q L k D Z G S T) {at_ : Nat} : ∀ j, at_ + j ≤ D.sure.length → (Sl.areaK D at_ j).length = 64 * j
  | 0, _ => rfl
  | j + 1, hl => by
    rw [Sl.areaK, List.length_append, area_len t j (by omega), Dk.atS_len t.rk.ok (by omega)]
    omega
theorem read_ok {D : Dk} (ho : D.off = false) {i : Nat} (hi : i < D.sure.length) : D.readC (i : Int) = 0 ∧ D.readB (i : Int) = D.atS i := by
  have h1 : D.readC (i : Int) = 0 := by
    rw [Dk.readC, if_neg (by rw [ho]; simp), if_pos (by unfold Dk.has; omega)]
  exact ⟨h1, by rw [Dk.readB, if_pos h1]; rfl⟩
/-- A row of bytes doesn't lie where the slots do. -/
theorem row_ne {w : World} {A : Option Addr} {n c q h : Nat} {xs : List UInt8} {Z : Sl} {A5 : Option Addr} {c5 : Nat} (hr : Rd w A n c xs) (hq : Bk w q 87 (slA h Z A5 c5)) : ∀ a, 0 < n → A = some a → a.block ≠ q := by
  intro a hn ha e
  obtain ⟨b, off, e2, hb, hc⟩ := hr.at_ hn
  rw [ha] at e2
  injection e2 with e2
  subst e2
  simp only at e
  subst e
  have h0 := hc 0 hn
  rw [hq.cell] at h0
  match off, h0 with
  | 0, h0 => simp at h0
  | 1, h0 => simp at h0
  | 2, h0 => simp at h0
  | 3, h0 => simp at h0
  | 4, h0 => simp at h0
  | 5, h0 => simp at h0
  | m + 6, h0 => simp at h0
theorem wrap_succ (m : Nat) (h : m < 1000000) : wrap64 ((m : Int) + 1) = ((m + 1 : Nat) : Int) := (wrap_nat (m + 1) h).1
theorem meas_of {j n : Nat} {V : Int} (h : V = ((j + 1 : Nat) : Int)) (h9 : n - (j + 1) < n - j) : n - (intOf (.int .i64 V)).toNat < n - (intOf (.int .i64 (j : Int))).toNat := by
  subst h
  simpa [intOf] using h9
theorem step_of {j n1 n : Nat} (h1 : j < n1) (h2 : n1 = n) : j + 1 ≤ n ∧ n - (j + 1) < n - j := by omega
theorem small2_of {j n1 n : Nat} (h1 : j < n1) (h2 : n1 = n) (h3 : n ≤ 8) : j < 1000000 := by omega
theorem lim_of {j n1 n m9 : Nat} (h1 : j < n1) (h2 : n1 = n) (h3 : n ≤ 8) (h4 : m9 = 64 * j) : m9 + 64 ≤ 140737488355328 := by
  have : m9 + 64 ≤ 1000 := by omega
  exact Nat.le_trans this (by decide)
theorem add_nat (f a n k : Nat) (hf : f + 2 * n ≤ 256) (ha : a < 2) (hk : k < n) (hn : n ≤ 8) : ∃ pn fa aj : Nat, (a : Int) * (n : Int) = (pn : Int) ∧ (f : Int) + (pn : Int) = (fa : Int) ∧ (fa : Int) + (k : Int) = (aj : Int) ∧ pn ≤ 1000000 ∧ fa ≤ 1000000 ∧ aj ≤ 1000000 ∧ aj = f + a * n + k ∧ aj < f + 2 * n := by
  have h1 : a = 0 ∨ a = 1 := by omega
  refine ⟨a * n, f + a * n, f + a * n + k, by simp, by simp, by simp, ?_, ?_, ?_, rfl, ?_⟩ <;> rcases h1 with rfl | rfl <;> omega
set_option maxHeartbeats 8000000 in
theorem rload20_off (N : Nat) (w : World) (h q : Nat) (L : Value) (k : Nat) (D : Dk) (Z : Sl) (G S T : Nat → Prop) (t : Qs N w h q L k D Z G S T) (ho : D.off = true) :
    Calls Tryz.prog 38 #[.pointer (some ⟨q, 0, none⟩)] w (PostL N h q k L D Z G S T w) := by
  have e1 : Z.loadC D = 6 := by rw [Sl.loadC, if_pos ho]
  have e2 : Z.load D = Z := by rw [Sl.load, if_pos ho]
  have e3 : Z.loadB D = [] := by rw [Sl.loadB, e1, if_neg (by omega)]
  have e4 : Z.loadN D = 0 := by rw [Sl.loadN, e1, if_neg (by omega)]
  have r1 : ∀ i : Nat, D.readC (i : Int) = 6 := fun i => by rw [Dk.readC, if_pos ho]
  have QT := Lib.hid t
  have RD_ := Lib.hid (show ∀ X (i : Nat), Below w.heap.size w X → Calls Tryz.prog 65 #[.pointer (some ⟨h, 0, none⟩), .int .i64 (i : Int)] X fun e w' => ∃ A n c, e = .returned (.tuple #[.slice A n c, .int .i64 6]) ∧ Below X.heap.size X w' from fun X i hX => (rreadD_any N X h D G (t.grow hX).rk (i : Int)).mono fun e w' ⟨A, c, h1, _, _, h2⟩ => ⟨A, (D.readB (i : Int)).length, c, by rw [h1, r1 i]; rfl, h2⟩)
  obtain ⟨A5, c5, hb5, hr5, hi5⟩ := t.rz.ex
  have KQ := Lib.hid (show ∀ X : World, Below w.heap.size w X → X.cell? ⟨q, 0, none⟩ = some (.pointer (some ⟨h, 0, none⟩)) ∧ X.cell? ⟨q, 1, none⟩ = some (.int .i64 (Z.first : Int)) ∧ X.cell? ⟨q, 2, none⟩ = some (.int .i64 (Z.n : Int)) from fun X hX => by
    have hq : Bk X q 87 (slA h Z A5 c5) := hb5.below hX t.rz.lt2
    exact ⟨hq.cell 0, hq.cell 1, hq.cell 2⟩)
  obtain ⟨f1, hf1⟩ : ∃ f1, f1 = Z.first := ⟨_, rfl⟩
  obtain ⟨n1, hn1⟩ : ∃ n1, n1 = Z.n := ⟨_, rfl⟩
  rw [← hf1, ← hn1] at KQ
  have m1 : f1 ≤ 1000000 := by have := t.zo.fits; have := t.rk.ok.most; omega
  have m2 : 1 ≤ n1 := by have := t.zo.one; omega
  have t0 : (0 : Int) < (n1 : Int) := by omega
  have z1 : wrap64 (f1 : Int) = (f1 : Int) := (wrap_nat f1 m1).1
  have z2 : IntKind.i64.wrap (f1 : Int) = (f1 : Int) := (wrap_nat f1 m1).2
  have z3 : IntKind.i64.wrap 0 = 0 := by decide
  have z4 : IntKind.i64.wrap ((f1 : Int) + 0) = (f1 : Int) := by rw [Int.add_zero]; exact z2
  have PP := Lib.hid (show ∀ X, Below w.heap.size w X → PostL N h q k L D Z G S T w (.returned (.tuple #[.slice none 0 0, .int .u64 0, .int .i64 6])) X from fun X hX => by
    unfold PostL
    rw [e1, e2, e3, e4]
    exact ⟨none, 0, S, rfl, Rd.nil_ _, (fun _ _ e => by cases e), t.grow hX, fun b hb => .inl hb, Mv.of (rk_loN t.rk) hX⟩)
  obtain ⟨w0, hw0⟩ : ∃ w0, w.alloc (.cells #[.slice none 0 0, .slice none 0 0] 115) = w0 := ⟨_, rfl⟩
  have B0 := Lib.hid (show Below w.heap.size w w0 by rw [← hw0]; exact (Below.refl _ _).alloc (Nat.le_refl _) _)
  have GD := Lib.hid (Below.refl w0.heap.size w0).drew
  obtain ⟨d0, d1, d2⟩ := KQ.out w0 B0.out
  clear t hb5 hr5 hi5 e1 e2 e3 e4 r1 ho hf1 hn1 m1 m2
  go_enter Tryz.func38, Tryz.ntmps38
  go_upto_region 2 with (fail)
  skip
  clear hw0
  go_wp2
  go_loopw [6] (fun i wr => i = .int .i64 0 ∧ wr = w0) (fun _ _ => 0)
  case atStart => exact ⟨rfl, rfl⟩
  case round =>
    obtain ⟨rfl, hwr⟩ := hrel
    subst hwr
    go_wp2
    go_loopw [7] (fun i wr2 => i = .int .i64 0 ∧ wr2 = wr) (fun _ _ => 0)
    case atStart => exact ⟨rfl, rfl⟩
    case round =>
      obtain ⟨rfl, hwr⟩ := hrel
      subst hwr
      go_upto_region 8 with (fail)
      clear d0 d1 d2
      (go_region_held3 (fun X => X.cell? ⟨q, 0, none⟩ = some (.pointer (some ⟨h, 0, none⟩)) ∧ X.cell? ⟨q, 1, none⟩ = some (.int .i64 (f1 : Int)) ∧ X.cell? ⟨q, 2, none⟩ = some (.int .i64 (n1 : Int)))
        (first
          | exact KQ.out _ B3.out
          | exact KQ.out _ B0.out.drew)
        (first
          | (go_at_call 65; ((with_reducible refine (RD_.out _ f1 B0.out.drew).mono ?_); rintro e w3 ⟨A3, n3, c3, rfl, b3⟩; have B3 := Lib.hid (B0.out.drew.trans (b3.mono B0.out.size)); clear b3))
          | fail))
      go_wp2
      go_ret3
      exact PP.out _ B3.out
/-- Where Load's two rows lie. -/
structure Ar (N : Nat) (w : World) (gA q : Nat) (Z : Sl) (D : Dk) (a : Nat) (wr : World) : Prop where
  cs : ∃ cs : Array Value, Bk wr gA 115 cs ∧ cs.size = 2 ∧ (∀ i, i < a → ∃ A c, cs[i]? = some (.slice A (64 * Z.n) c) ∧ Rd wr A (64 * Z.n) c (Z.area D i) ∧ ∀ x, A = some x → x.block ≠ gA) ∧ (∀ i, a ≤ i → i < 2 → cs[i]? = some (.slice none 0 0))
  bel : Below w.heap.size w wr
theorem cell_of {wr : World} {g : Nat} {T : TypeId} {cs : Array Value} (h : Bk wr g T cs) (i : Nat) : wr.cell? ⟨g, i, none⟩ = cs[i]? := h.cell i
theorem whole_small (xs : List UInt8) {n : Nat} (h : 1 ≤ n ∧ n ≤ 8) : (whole xs n).2.length ≤ 140737488355328 := by
  have : (whole xs n).2.length ≤ 1000 := by
    unfold whole
    split
    · rename_i hw
      have h1 := hw.2.1
      rw [room_nat h.1 h.2] at h1
      show (dataOf xs).length ≤ _
      unfold dataOf
      rw [List.length_take]
      omega
    · simp
  exact Nat.le_trans this (by decide)
theorem same_blank (xs : List UInt8) (n : Nat) : sameB xs (List.replicate (64 * n) 0) = blank xs n := by
  unfold sameB blank
  rw [Bool.eq_iff_iff]
  simp
theorem big_of {n1 M : Nat} (h : n1 ≤ 8) (h2 : M = 64 * n1) : M ≤ 1000000 := by omega
/-- What isn't wanted is taken first. -/
theorem h_off {P : Program} {md : Region.Mode} {Q : Exit → Act → World → Prop} {l : List Oper} {S : World → Prop} {fuel : Nat} {L : Array Bool} {a : Act} {w : World} {o : Oper} (i : Nat) (hi : RD.nthO l i = some o) (hs : Region.noSelect l.toArray = true) (hf : Region.free md l.toArray L i = true) (hr : (Region.ready md l.toArray L).contains i = true)
    (hQ : ∀ c a w, Q (.panic c) (a.put o.dst undef) w → Q (.panic c) a w) (hw : Region.wanted o (yielded l.toArray a.tmps) = false) (hS : S w)
    (h : wpAnyH P md l.toArray Q S fuel (L.setIfInBounds i true) (a.put o.dst undef) w) : wpAnyH P md l.toArray Q S (fuel + 1) L a w :=
  wpAnyH_take ((RD.nthO_eq l i).trans hi) hs hf hr hQ (.inr ⟨hw, rfl⟩) hS h
/-- The two rows, while the slots' own block is written. -/
def Rq (gA q : Nat) (Z : Sl) (D : Dk) (X : World) : Prop := ∃ cs : Array Value, Bk X gA 115 cs ∧ ∀ i, i < 2 → ∃ A c, cs[i]? = some (.slice A (64 * Z.n) c) ∧ Rd X A (64 * Z.n) c (Z.area D i) ∧ ∀ x, A = some x → x.block ≠ q
theorem Rq.keep {gA q : Nat} {Z : Sl} {D : Dk} {X Y : World} (r : Rq gA q Z D X) (hne : gA ≠ q) (hs : X.heap.size ≤ Y.heap.size) (hk : ∀ b, b ≠ q → b < X.heap.size → Y.heap[b]? = X.heap[b]?) : Rq gA q Z D Y := by
  obtain ⟨cs, h1, h2⟩ := r
  refine ⟨cs, (hk gA hne h1.lt).trans h1, fun i hi => ?_⟩
  obtain ⟨A, c, e1, e2, e3⟩ := h2 i hi
  refine ⟨A, c, e1, ⟨e2.len, e2.cap, e2.max, e2.nil, fun hn => ?_⟩, e3⟩
  obtain ⟨b, off, e, hb, hc⟩ := e2.at_ hn
  exact ⟨b, off, e, Nat.lt_of_lt_of_le hb hs, fun j hj => (World.cell?_of_block (a := ⟨b, off + j, none⟩) (hk b (e3 _ e) hb)).trans (hc j hj)⟩
/-- What holds of Load's second loop. -/
structure Lp (N : Nat) (w : World) (h q k : Nat) (L : Value) (D : Dk) (Z : Sl) (G S T : Nat → Prop) (gA i : Nat) (wr : World) : Prop where
  qs : ∃ S', Qs N wr h q L k D { Z with at_ := (zz Z D i).1, num := (zz Z D i).2.1, b := (zz Z D i).2.2 } G S' T ∧ (∀ b, S' b → S b ∨ w.heap.size ≤ b)
  mv : Mv N (fun x => x = q) w wr
  rw_ : Rq gA q Z D wr
  ne : gA ≠ q
theorem Lp.grow {N : Nat} {w : World} {h q k : Nat} {L : Value} {D : Dk} {Z : Sl} {G S T : Nat → Prop} {gA i : Nat} {X Y : World} (r : Lp N w h q k L D Z G S T gA i X) (hb : Below X.heap.size X Y) : Lp N w h q k L D Z G S T gA i Y := by
  obtain ⟨S', h1, h2⟩ := r.qs
  exact ⟨⟨S', h1.grow hb, h2⟩, r.mv.trans (Mv.of (F := fun x => x = q) (rk_loN h1.rk) hb) (fun b hb => .inl hb), r.rw_.keep r.ne hb.size (fun b _ hl => hb.block b hl), r.ne⟩
set_option maxHeartbeats 16000000 in
theorem rload20_on (N : Nat) (w : World) (h q : Nat) (L : Value) (k : Nat) (D : Dk) (Z : Sl) (G S T : Nat → Prop) (t : Qs N w h q L k D Z G S T) (ho : D.off = false) :
    Calls Tryz.prog 38 #[.pointer (some ⟨q, 0, none⟩)] w (PostL N h q k L D Z G S T w) := by
  have QT := Lib.hid t
  have HO := Lib.hid ho
  have RD_ := Lib.hid (show ∀ X (i : Nat), Below w.heap.size w X → i < D.sure.length → Calls Tryz.prog 65 #[.pointer (some ⟨h, 0, none⟩), .int .i64 (i : Int)] X fun e w' => ∃ A c, e = .returned (.tuple #[.slice A 64 c, .int .i64 0]) ∧ Rd w' A 64 c (D.atS i) ∧ Below X.heap.size X w' from fun X i hX hi => (rreadD_any N X h D G (t.grow hX).rk (i : Int)).mono fun e w' ⟨A, c, h1, h2, _, h3⟩ => by
    obtain ⟨q1, q2⟩ := read_ok ho hi
    rw [q2, Dk.atS_len t.rk.ok hi] at h1 h2
    rw [q1] at h1
    exact ⟨A, c, h1, h2, h3⟩)
  obtain ⟨A5, c5, hb5, hr5, hi5⟩ := t.rz.ex
  have KQ := Lib.hid (show ∀ X : World, Below w.heap.size w X → X.cell? ⟨q, 0, none⟩ = some (.pointer (some ⟨h, 0, none⟩)) ∧ X.cell? ⟨q, 1, none⟩ = some (.int .i64 (Z.first : Int)) ∧ X.cell? ⟨q, 2, none⟩ = some (.int .i64 (Z.n : Int)) from fun X hX => by
    have hq : Bk X q 87 (slA h Z A5 c5) := hb5.below hX t.rz.lt2
    exact ⟨hq.cell 0, hq.cell 1, hq.cell 2⟩)
  have HZ := Lib.hid (show 1 ≤ Z.n ∧ Z.n ≤ 8 ∧ Z.first + 2 * Z.n ≤ D.sure.length ∧ Z.first + 2 * Z.n ≤ 256 from ⟨t.zo.one, t.zo.most, t.zo.fits, Nat.le_trans t.zo.fits t.rk.ok.most⟩)
  obtain ⟨gA, hgA⟩ : ∃ gA, w.heap.size = gA := ⟨_, rfl⟩
  obtain ⟨w0, hw0⟩ : ∃ w0, w.alloc (.cells #[.slice none 0 0, .slice none 0 0] 115) = w0 := ⟨_, rfl⟩
  have A0 := Lib.hid (show Ar N w gA q Z D 0 w0 from ⟨⟨_, by rw [← hw0]; exact Bk.newAt _ _ _ _ hgA, rfl, fun i hi => absurd hi (by omega), fun i _ hi => by
    match i, hi with
    | 0, _ => rfl
    | 1, _ => rfl
    | i + 2, hi => omega⟩, by rw [← hw0]; exact (Below.refl _ _).alloc (Nat.le_refl _) _⟩)
  have HGA := Lib.hid hgA
  have AL := Lib.hid (show ∀ a j, a < 2 → j ≤ Z.n → (Sl.areaK D (Z.first + a * Z.n) j).length = 64 * j from fun a j ha hj => area_len t j (by
    have := t.zo.fits
    have h1 : a = 0 ∨ a = 1 := by omega
    rcases h1 with rfl | rfl <;> omega))
  clear t hb5 hr5 hi5 ho
  go_enter Tryz.func38, Tryz.ntmps38
  go_upto_region 2 with (fail)
  clear hw0 hgA
  go_wp2
  go_loopw [6] (fun i wr => ∃ a : Nat, a ≤ 2 ∧ i = .int .i64 (a : Int) ∧ Ar N w gA q Z D a wr) (fun i _ => 2 - (intOf i).toNat)
  case atStart => exact ⟨0, by omega, rfl, A0.out⟩
  case round =>
    obtain ⟨a, ha, rfl, hA⟩ := hrel
    by_cases hlt : a < 2
    · have t0 : (a : Int) < 2 := by omega
      obtain ⟨cs, hbk, hsz, hold, hnew⟩ := hA.cs
      obtain ⟨LO, hLO⟩ : ∃ LO, wr.heap.size = LO := ⟨_, rfl⟩
      obtain ⟨wo, hwo⟩ : ∃ wo : World, wo = wr := ⟨_, rfl⟩
      have BA := Lib.hid (show Below w.heap.size w wo by rw [hwo]; exact hA.bel)
      have HBK := Lib.hid (show Bk wo gA 115 cs by rw [hwo]; exact hbk)
      have HSZ := Lib.hid hsz
      have HOLD := Lib.hid (show ∀ i, i < a → ∃ A c, cs[i]? = some (.slice A (64 * Z.n) c) ∧ Rd wo A (64 * Z.n) c (Z.area D i) ∧ ∀ x, A = some x → x.block ≠ gA by rw [hwo]; exact hold)
      have HNEW := Lib.hid hnew
      have HLO := Lib.hid (show wo.heap.size = LO by rw [hwo]; exact hLO)
      have GLO := Lib.hid (show gA < LO by rw [← hLO]; exact hbk.lt)
      have BKA := Lib.hid (show ∃ cs' v, Bk wr gA 115 cs' ∧ cs'.size = 2 ∧ cs'[a]? = some v ∧ (∀ i, i ≠ a → cs'[i]? = cs[i]?) ∧ wr.ownsRow LO 5 1 v (64 * 0) (bv (Sl.areaK D (Z.first + a * Z.n) 0)) from ⟨cs, _, hbk, hsz, hnew a (Nat.le_refl _) hlt, fun _ _ => rfl, World.ownsRow_nil _ _ _ _⟩)
      have BB0 := Lib.hid (show Below w.heap.size w wr from hA.bel)
      have HS0 := Lib.hid (show (∀ b, b < LO → b ≠ gA → wr.heap[b]? = wo.heap[b]?) ∧ LO ≤ wr.heap.size by rw [hwo]; exact ⟨fun _ _ _ => rfl, by rw [hLO]; exact Nat.le_refl _⟩)
      have HLT := Lib.hid hlt
      clear hA hbk hsz hold hnew hLO hwo hlt
      go_wp2
      go_loopw [7] (fun i wr2 => ∃ (j : Nat) (cs' : Array Value) (v : Value), j ≤ Z.n ∧ i = .int .i64 (j : Int) ∧ Bk wr2 gA 115 cs' ∧ cs'.size = 2 ∧ cs'[a]? = some v ∧ (∀ i, i ≠ a → cs'[i]? = cs[i]?) ∧ wr2.ownsRow LO 5 1 v (64 * j) (bv (Sl.areaK D (Z.first + a * Z.n) j)) ∧ Below w.heap.size w wr2 ∧ (∀ b, b < LO → b ≠ gA → wr2.heap[b]? = wo.heap[b]?) ∧ LO ≤ wr2.heap.size) (fun i _ => Z.n - (intOf i).toNat)
      case atStart =>
        obtain ⟨cs', v, h1, h2, h3, h4, h5⟩ := BKA.out
        exact ⟨0, cs', v, Nat.zero_le _, rfl, h1, h2, h3, h4, h5, BB0.out, HS0.out.1, HS0.out.2⟩
      case round =>
        obtain ⟨j, cs', v, hj, rfl, hbk, hsz, hv, hoth, hown, hbel, hsame, hlo⟩ := hrel
        obtain ⟨e0, e1, e2⟩ := KQ.out wr hbel
        obtain ⟨n1, hn1⟩ : ∃ n1, n1 = Z.n := ⟨_, rfl⟩
        obtain ⟨f1, hf1⟩ : ∃ f1, f1 = Z.first := ⟨_, rfl⟩
        rw [← hf1] at e1
        rw [← hn1] at e2
        by_cases hjn : j < n1
        · have u0 : (j : Int) < (n1 : Int) := by omega
          have HJN := Lib.hid hjn
          obtain ⟨pn, fa, aj, x1, x2, x3, l1, l2, l3, hajv, hajl⟩ := add_nat f1 a n1 j (by rw [hf1, hn1]; exact HZ.out.2.2.2) HLT.out hjn (by rw [hn1]; exact HZ.out.2.1)
          have s1 : IntKind.i64.wrap (pn : Int) = (pn : Int) := (wrap_nat pn l1).2
          have s2 : IntKind.i64.wrap (fa : Int) = (fa : Int) := (wrap_nat fa l2).2
          have s3 : IntKind.i64.wrap (aj : Int) = (aj : Int) := (wrap_nat aj l3).2
          have HAJ := Lib.hid (show aj = Z.first + a * Z.n + j ∧ aj < D.sure.length from ⟨by rw [hajv, hf1, hn1], by have := HZ.out.2.2.1; rw [hf1, hn1] at hajl; omega⟩)
          have HNN := Lib.hid (show n1 = Z.n from hn1)
          have KJ := Lib.hid (show ∀ X, Below wr.heap.size wr X → X.cell? ⟨q, 0, none⟩ = some (.pointer (some ⟨h, 0, none⟩)) ∧ X.cell? ⟨q, 1, none⟩ = some (.int .i64 (f1 : Int)) ∧ X.cell? ⟨q, 2, none⟩ = some (.int .i64 (n1 : Int)) from fun X hX => by
            have := KQ.out X (hbel.trans (hX.mono hbel.size))
            rw [← hf1, ← hn1] at this
            exact this)
          have BW := Lib.hid hbel
          have OW := Lib.hid hown
          have BKJ := Lib.hid hbk
          have SZJ := Lib.hid hsz
          have HV := Lib.hid hv
          have OTH := Lib.hid hoth
          have SAM := Lib.hid hsame
          have LOW := Lib.hid hlo
          have BD := Lib.hid (Below.refl wr.heap.size wr).drew
          clear hbel hown hbk hsz hv hoth hsame hlo hjn hf1 hn1 hajv hajl l1 l2 l3
          go_upto_region 8 with (fail)
          clear e0 e1 e2
          (go_region_held3 (fun X => X.cell? ⟨q, 0, none⟩ = some (.pointer (some ⟨h, 0, none⟩)) ∧ X.cell? ⟨q, 1, none⟩ = some (.int .i64 (f1 : Int)) ∧ X.cell? ⟨q, 2, none⟩ = some (.int .i64 (n1 : Int)))
            (first
              | exact KJ.out _ B3.out
              | exact KJ.out _ BD.out)
            (first
              | (go_at_call 65; ((with_reducible refine (RD_.out _ aj (BW.out.trans (BD.out.mono BW.out.size)) HAJ.out.2).mono ?_); rintro e w3 ⟨A3, c3, rfl, r3, b3⟩; have B3 := Lib.hid (BD.out.trans b3); have R3 := Lib.hid r3; clear r3 b3))
              | fail))
          obtain ⟨A9, c9, hv9⟩ := own_form OW.out
          have K3 := Lib.hid (BKJ.out.below B3.out BKJ.out.lt)
          have O3 := Lib.hid (own_below OW.out B3.out)
          have k9 : w3.cell? ⟨gA, a, none⟩ = some v := (cell_of K3.out a).trans HV.out
          have f9 := K3.out.frozen a
          have HV9 := Lib.hid hv9
          obtain ⟨m9, hm9⟩ : ∃ m9, m9 = 64 * j := ⟨_, rfl⟩
          have HM9 := Lib.hid hm9
          have hm9b : m9 + 64 ≤ 140737488355328 := lim_of HJN.out HNN.out HZ.out.2.1 HM9.out
          rw [← hm9] at hv9 O3
          subst hv9
          clear hm9 s1 s2 s3 x1 x2 x3 u0
          go_wp2_with (at_builtin; refine append_rd rfl (.tmp 53) (.tmp 54) rfl LO _ m9 _ rfl O3.out A3 64 c3 _ rfl R3.out hm9b (Nat.le_trans LOW.out B3.out.size) ?_; intro v4 w4 o4 g4; obtain ⟨A4, c4, rfl⟩ := own_form o4; have O4 := Lib.hid o4; have G4 := Lib.hid (show w3.grownBy w4 (Value.slice A9 m9 c9).ownBlock from g4); have K4 := Lib.hid (show Bk w4 gA 115 cs' from K3.out.only g4 (fun e => by have := (O3.out.lt gA e.symm).1; have := GLO.out; omega)); have k4 : w4.cell? ⟨gA, a, none⟩ = some (.slice A9 m9 c9) := (cell_of K4.out a).trans HV.out; have f4 := K4.out.frozen a; clear o4 g4)
          have WJ := Lib.hid (wrap_succ j (small2_of HJN.out HNN.out HZ.out.2.1))
          have J9 := Lib.hid (step_of HJN.out HNN.out)
          go_roundw
          case rel =>
            clear hm9b
            have hn4 : ∀ b, b ≠ gA → (w4.setCell ⟨gA, a, none⟩ (.slice A4 (m9 + 64) c4)).heap[b]? = w4.heap[b]? := fun b hb => Below.heap_setCell w4 ⟨gA, a, none⟩ _ b hb
            have hs4 : w3.heap.size ≤ w4.heap.size := G4.out.size
            have hb3 := B3.out.size
            have hl0 := LOW.out
            have own4 : ∀ b, (Value.slice A9 m9 c9).ownBlock = some b → LO ≤ b := fun b e => (O3.out.lt b e).1
            refine ⟨j + 1, cs'.setIfInBounds a (.slice A4 (m9 + 64) c4), _, J9.out.1, by first | rw [WJ.out] | go_num, K4.out.put a _, by rw [Array.size_setIfInBounds]; exact SZJ.out, Array.getElem?_setIfInBounds_self_of_lt (by rw [SZJ.out]; exact HLT.out), fun i hi => by rw [Array.getElem?_setIfInBounds_ne (Ne.symm hi)]; exact OTH.out i hi, ?_, ?_, ?_, ?_⟩
            · have e1 : 64 * (j + 1) = m9 + 64 := by rw [HM9.out]; omega
              have e2 : Sl.areaK D (Z.first + a * Z.n) (j + 1) = Sl.areaK D (Z.first + a * Z.n) j ++ D.atS aj := by rw [Sl.areaK, HAJ.out.1]
              rw [e1, e2]
              exact own_keepH O4.out fun b e _ => hn4 b fun e' => by have := (O4.out.lt b e).1; have := GLO.out; omega
            · have b4 : Below w.heap.size w w4 := ((BW.out.trans (B3.out.mono BW.out.size)).grown G4.out (Nat.le_trans BW.out.size hb3) (fun b e => by have h1 := own4 b e; have h2 := GLO.out; have h3 := HGA.out; omega))
              exact b4.setCell (p := ⟨gA, a, none⟩) (by rw [HGA.out]; exact Nat.le_refl _) _
            · intro b hb hne
              refine (hn4 b hne).trans ((G4.out.block b (by omega) fun e => ?_).trans ((B3.out.block b (by omega)).trans (SAM.out b hb hne)))
              have := own4 b e.symm
              omega
            · have : w4.heap.size ≤ (w4.setCell ⟨gA, a, none⟩ (.slice A4 (m9 + 64) c4)).heap.size := by simp
              omega
          case measure => exact meas_of WJ.out J9.out.2
        · have u0 : ¬ (j : Int) < (n1 : Int) := by omega
          have hje : j = Z.n := by omega
          have H9 := Lib.hid (show Ar N w gA q Z D (a + 1) wr from by
            refine ⟨⟨cs', hbk, hsz, fun i hi => ?_, fun i h1 h2 => by rw [hoth i (by omega)]; exact HNEW.out i (by omega) h2⟩, hbel⟩
            by_cases e : i = a
            · subst e
              rw [hje] at hown
              obtain ⟨A9, c9, rfl⟩ := own_form hown
              refine ⟨A9, c9, hv, ?_, fun x hx e => ?_⟩
              · exact Rd.own hown
              · have := (hown.lt x.block (by rw [hx]; rfl)).1
                have := GLO.out
                omega
            · obtain ⟨A9, c9, h1, h2, h3⟩ := HOLD.out i (by omega)
              refine ⟨A9, c9, by rw [hoth i e]; exact h1, ⟨h2.len, h2.cap, h2.max, h2.nil, fun hn => ?_⟩, h3⟩
              obtain ⟨b, off, e3, hb, hc⟩ := h2.at_ hn
              have hbl : b < LO := by rw [← HLO.out]; exact hb
              exact ⟨b, off, e3, Nat.lt_of_lt_of_le hbl hlo, fun k hk => (World.cell?_of_block (a := ⟨b, off + k, none⟩) (hsame b hbl (h3 _ e3))).trans (hc k hk)⟩)
          clear hbk hsz hv hoth hown hbel hsame hlo hje
          go_wp2
          go_roundw
          case rel => exact ⟨a + 1, HLT.out, by go_num, H9.out⟩
          case measure => have := HLT.out; simp [intOf]; omega
    · obtain rfl : a = 2 := by omega
      have t0 : ¬ ((2 : Nat) : Int) < 2 := by omega
      have QW := Lib.hid (QT.out.grow hA.bel)
      obtain ⟨A5, c5, hb5, _, _⟩ := QW.out.rz.ex
      have k3 : wr.cell? ⟨q, 3, none⟩ = some (.int .i64 Z.at_) := hb5.cell 3
      have k4 : wr.cell? ⟨q, 4, none⟩ = some (.int .u64 (Z.num : Int)) := hb5.cell 4
      have k5 : wr.cell? ⟨q, 5, none⟩ = some (.slice A5 Z.b.length c5) := hb5.cell 5
      have p3 := hb5.frozen 3
      have p4 := hb5.frozen 4
      have p5 := hb5.frozen 5
      have RW0 := Lib.hid (show Rq gA q Z D wr from by
        obtain ⟨cs, h1, h2, h3, _⟩ := hA.cs
        refine ⟨cs, h1, fun i hi => ?_⟩
        obtain ⟨A, c, e1, e2, _⟩ := h3 i hi
        exact ⟨A, c, e1, e2, fun x hx => row_ne e2 hb5 x (by have := HZ.out.1; omega) hx⟩)
      have NE := Lib.hid (show gA ≠ q from fun e => by have h1 := QT.out.rz.lt2; have h2 := HGA.out; omega)
      have HS0 := Lib.hid (slots_set (a := -1) (nx := 0) (nb := 0) (c8 := 0) (A8 := none) (b := []) (w8 := (wr.setCell ⟨q, 3, none⟩ (.int .i64 (-1))).setCell ⟨q, 4, none⟩ (.int .u64 ((0 : Nat) : Int))) QW.out (Below.refl _ _) (Rd.nil_ _) (fun x h0 => absurd h0 (by omega)) (.inl rfl) (by omega))
      have BWR := Lib.hid hA.bel
      have L0 := Lib.hid (show Lp N w h q k L D Z G S T gA 0 (((wr.setCell ⟨q, 3, none⟩ (.int .i64 (-1))).setCell ⟨q, 4, none⟩ (.int .u64 ((0 : Nat) : Int))).setCell ⟨q, 5, none⟩ (.slice none 0 0)) from ⟨⟨_, HS0.out.1, fun b hb => by
          rcases hb with e | ⟨y, h0, _⟩
          · exact .inl e
          · exact absurd h0 (by omega)⟩, (Mv.of (rk_loN QT.out.rk) BWR.out).trans (slots_setQ (a := -1) (nx := 0) QW.out (Below.refl _ _)) (fun b hb => .inl hb), RW0.out.keep NE.out (by simp) (fun b hb _ => (Below.heap_setCell _ ⟨q, 5, none⟩ _ b hb).trans ((Below.heap_setCell _ ⟨q, 4, none⟩ _ b hb).trans (Below.heap_setCell _ ⟨q, 3, none⟩ _ b hb))), NE.out⟩)
      clear hA hb5
      go_wp2
      clear k3 k4 k5 p3 p4 p5
      go_loopg [10, 11, 12, 13] 3 (fun f e i s12 s13 wr => ∃ a : Nat, a + f = 3 ∧ a ≤ 2 ∧ i = .int .i64 (a : Int) ∧ e = .bool (em Z D a) ∧ Lp N w h q k L D Z G S T gA a wr)
      case atStart => exact ⟨0, by omega, by omega, rfl, rfl, L0.out⟩
      case round =>
        obtain ⟨a, hgk, ha, rfl, rfl, hL⟩ := hrel
        have HGK := Lib.hid hgk
        clear t0
        by_cases hlt : a < 2
        · have t0 : (a : Int) < 2 := by omega
          obtain ⟨S', QZ, hS'⟩ := hL.qs
          have LPA := Lib.hid hL
          obtain ⟨n1, hn1⟩ : ∃ n1, n1 = Z.n := ⟨_, rfl⟩
          obtain ⟨M, hM⟩ : ∃ M, M = 64 * n1 := ⟨_, rfl⟩
          have HN1 := Lib.hid (show n1 = Z.n ∧ 1 ≤ n1 ∧ n1 ≤ 8 ∧ M = 64 * n1 from ⟨hn1, by rw [hn1]; exact HZ.out.1, by rw [hn1]; exact HZ.out.2.1, hM⟩)
          have RR := Lib.hid (show ∀ X, Rq gA q Z D X → ∃ Ai ci, X.cell? ⟨gA, a, none⟩ = some (.slice Ai M ci) ∧ Rd X Ai M ci (Z.area D a) from fun X hX => by
            obtain ⟨cs, h1, h2⟩ := hX
            obtain ⟨A, c, e1, e2, _⟩ := h2 a hlt
            rw [← hn1, ← hM] at e1 e2
            exact ⟨A, c, (cell_of h1 a).trans e1, e2⟩)
          obtain ⟨Ai, ci, hci, hri⟩ := RR.out wr hL.rw_
          obtain ⟨A9, c9, hb9, hr9, hi9⟩ := QZ.rz.ex
          have e2 : wr.cell? ⟨q, 2, none⟩ = some (.int .i64 (n1 : Int)) := by rw [hn1]; exact hb9.cell 2
          obtain ⟨m, hm⟩ : ∃ m, m = (whole (Z.area D a) Z.n).1 := ⟨_, rfl⟩
          obtain ⟨dat, hdat⟩ : ∃ dat, dat = (whole (Z.area D a) Z.n).2 := ⟨_, rfl⟩
          obtain ⟨dl, hdl⟩ : ∃ dl, dl = dat.length := ⟨_, rfl⟩
          have HDL := Lib.hid hdl
          have HDB := Lib.hid (show dl ≤ 140737488355328 from by rw [hdl, hdat]; exact whole_small _ ⟨HZ.out.1, HZ.out.2.1⟩)
          have HML := Lib.hid (show m < 18446744073709551616 from by rw [hm]; exact whole_lt _ _)
          have WH := Lib.hid (show ∀ X, Below wr.heap.size wr X → Calls Tryz.prog 66 #[.slice Ai M ci, .int .i64 (n1 : Int)] X fun e w' => ∃ A c, e = .returned (.tuple #[.int .u64 (m : Int), .slice A dl c]) ∧ Rd w' A dl c dat ∧ Below X.heap.size X w' from fun X hX => by
            rw [hm, hdl, hdat, hn1]
            exact rwhole_any Ai M ci (Z.area D a) Z.n X (hri.below hX) (by rw [hM, hn1]) HZ.out.1 HZ.out.2.1)
          obtain ⟨z, hz⟩ : ∃ z, z = zz Z D a := ⟨_, rfl⟩
          have ZY := Lib.hid (show zz Z D (a + 1) = (if z.2.1 < m then ((a : Int), m, dat) else z) from by
            show Z.look D a (zz Z D a) = _
            rw [← hz, Sl.look, ← hm, hm, hdat])
          obtain ⟨e, he⟩ : ∃ e, e = em Z D a := ⟨_, rfl⟩
          have EY := Lib.hid (show em Z D (a + 1) = (e || blank (Z.area D a) Z.n) from by rw [he]; rfl)
          have HLT := Lib.hid hlt
          have KS := Lib.hid (show ∀ X, Below wr.heap.size wr X → X.cell? ⟨gA, a, none⟩ = some (.slice Ai M ci) ∧ X.cell? ⟨q, 2, none⟩ = some (.int .i64 (n1 : Int)) from fun X hX => ⟨by
            obtain ⟨cs, h1, _⟩ := hL.rw_
            exact (hX.cell (p := ⟨gA, a, none⟩) h1.lt).trans hci, (hX.cell (p := ⟨q, 2, none⟩) QZ.rz.lt2).trans e2⟩)
          have BD := Lib.hid (Below.refl wr.heap.size wr).drew
          rw [← hz] at QZ
          rw [← he]
          have QZH := Lib.hid QZ
          have HSP := Lib.hid hS'
          clear QZ hS' hL hri hb9 hr9 hi9 hm hdl hdat hlt hn1 hM he hz
          obtain ⟨z1, z2, z3⟩ := z
          simp only at ZY QZH
          go_upto_region 19 with (fail)
          clear hci e2
          (go_region_held3 (fun X => X.cell? ⟨gA, a, none⟩ = some (.slice Ai M ci) ∧ X.cell? ⟨q, 2, none⟩ = some (.int .i64 (n1 : Int)))
            (first
              | exact KS.out _ B4.out
              | exact KS.out _ BD.out)
            (first
              | (go_at_call 66; ((with_reducible refine (WH.out _ BD.out).mono ?_); rintro e w4 ⟨A4, c4, rfl, r4, b4⟩; have B4 := Lib.hid (BD.out.trans b4); have R4 := Lib.hid r4; clear r4 b4))
              | fail))
          have Q4 := Lib.hid (QZH.out.grow B4.out)
          have RW4 := Lib.hid (LPA.out.rw_.keep LPA.out.ne B4.out.size (fun b _ hl => B4.out.block b hl))
          have M4 := Lib.hid (LPA.out.mv.trans (Mv.of (F := fun x => x = q) (rk_loN QZH.out.rk) B4.out) (fun b hb => .inl hb))
          have SP4 := Lib.hid (show ∀ b, S' b → S b ∨ w.heap.size ≤ b from HSP.out)
          obtain ⟨A9, c9, hb9, _, _⟩ := Q4.out.rz.ex
          have k3 : w4.cell? ⟨q, 3, none⟩ = some (.int .i64 z1) := hb9.cell 3
          have k4 : w4.cell? ⟨q, 4, none⟩ = some (.int .u64 (z2 : Int)) := hb9.cell 4
          have k5 : w4.cell? ⟨q, 5, none⟩ = some (.slice A9 z3.length c9) := hb9.cell 5
          have p3 := hb9.frozen 3
          have p4 := hb9.frozen 4
          have p5 := hb9.frozen 5
          have T4 := Lib.hid hb9
          have NE4 := Lib.hid (row_ne R4.out hb9)
          clear hb9
          go_upto_if 86 with (fail)
          go_cut [10] from 86 to 113 (fun s10 wx => s10 = .bool e ∧ Lp N w h q k L D Z G S T gA (a + 1) wx)
          case first =>
            by_cases hq : z2 < m
            · have y1 : (z2 : Int) < (m : Int) := by omega
              have ZZ := Lib.hid (show zz Z D (a + 1) = ((a : Int), m, dat) from by rw [ZY.out, if_pos hq])
              clear hq
              obtain ⟨wa, hwa⟩ : ∃ wa, wa = (w4.setCell ⟨q, 3, none⟩ (.int .i64 (a : Int))).setCell ⟨q, 4, none⟩ (.int .u64 (m : Int)) := ⟨_, rfl⟩
              have RA := Lib.hid (show Rd wa A4 dl c4 dat from by
                rw [hwa]
                exact rd_farB (rd_farB R4.out (fun x h1 h2 => NE4.out x h1 h2) 3 _) (fun x h1 h2 => NE4.out x h1 h2) 4 _)
              have TA := Lib.hid (show Bk wa q 87 _ by rw [hwa]; exact (T4.out.put 3 (.int .i64 (a : Int))).put 4 (.int .u64 (m : Int)))
              have SA := Lib.hid (show wa.heap.size = w4.heap.size by rw [hwa]; simp)
              have SM := Lib.hid (show ∀ b, b ≠ q → wa.heap[b]? = w4.heap[b]? from fun b hb => by rw [hwa]; exact (Below.heap_setCell _ ⟨q, 4, none⟩ _ b hb).trans (Below.heap_setCell _ ⟨q, 3, none⟩ _ b hb))
              have HWA := Lib.hid hwa
              go_upto_region 23 with (fail)
              first
                | rw [← hwa]
                | skip
              clear k3 k4 p3 p4 k5 p5 hwa
              have hdd : 0 + dl ≤ 140737488355328 := by rw [Nat.zero_add]; exact HDB.out
              go_wp2_with (at_builtin; refine append_rd rfl (.tmp 96) (.tmp 97) rfl wa.heap.size _ 0 [] rfl (World.ownsRow_lit (base := wa.heap.size) (e := 5) (size := 1) wa #[] 0 (Nat.le_refl _) (by simp [maxLen]) rfl) A4 dl c4 dat rfl (RA.out.alloc _) hdd (by simp) ?_; intro v8 w8 o8 g8; obtain ⟨A8, c8, hv8⟩ := own_form o8; rw [Nat.zero_add] at hv8; subst hv8; have O8 := Lib.hid (own_n o8); have B8 := Lib.hid (((Below.refl wa.heap.size wa).alloc (Nat.le_refl _) _).grown g8 (by simp) (fun q hq => Nat.le_of_eq (Option.some.inj hq))); have T8 := TA.out.below B8.out TA.out.lt; have k5 : w8.cell? ⟨q, 5, none⟩ = some (.slice A9 z3.length c9) := T8.cell 5; have p5 := T8.frozen 5; clear o8 g8)
              have HSQ := Lib.hid (slots_setQ (a := (a : Int)) (nx := m) (nb := dl) (c8 := c8) (A8 := A8) (w8 := w8) Q4.out (by rw [← HWA.out]; exact B8.out.mono (Nat.le_of_eq SA.out.symm)))
              have HS := Lib.hid (slots_set (a := (a : Int)) (nx := m) (nb := dl) (c8 := c8) (A8 := A8) (b := dat) (w8 := w8) Q4.out (by rw [← HWA.out]; exact B8.out.mono (Nat.le_of_eq SA.out.symm)) (Rd.own O8.out) (fun x _ e => by have := (O8.out.lt x.block (by rw [e]; rfl)).1; rw [SA.out] at this; exact this) (at_of (Nat.le_of_lt_succ HLT.out)) HML.out)
              go_meet
              refine ⟨rfl, ⟨⟨_, by rw [ZZ.out]; exact HS.out.1, fun b hb => ?_⟩, M4.out.trans HSQ.out (fun b hb => .inl hb), RW4.out.keep LPA.out.ne ?_ (fun b hb hl => ?_), LPA.out.ne⟩⟩
              · rcases HS.out.2.2 b hb with e | e
                · exact SP4.out b e
                · exact .inr (Nat.le_trans M4.out.size e)
              · have h1 := B8.out.size
                have h2 := SA.out
                have : w8.heap.size ≤ (w8.setCell ⟨q, 5, none⟩ (.slice A8 dl c8)).heap.size := by simp
                omega
              · exact (Below.heap_setCell _ ⟨q, 5, none⟩ _ b hb).trans ((B8.out.block b (by rw [SA.out]; exact hl)).trans (SM.out b hb))
            · have y1 : ¬ (z2 : Int) < (m : Int) := by omega
              have ZZ := Lib.hid (show zz Z D (a + 1) = (z1, z2, z3) from by rw [ZY.out, if_neg hq])
              clear hq
              go_wp2_with (fail)
              go_meet
              exact ⟨rfl, ⟨⟨S', by rw [ZZ.out]; exact Q4.out, SP4.out⟩, M4.out, RW4.out, LPA.out.ne⟩⟩
          case rest =>
            obtain ⟨rfl, hL2⟩ := hcut
            have L2 := Lib.hid hL2
            obtain ⟨Aj, cj, hcj, hrj⟩ := RR.out wc hL2.rw_
            obtain ⟨S2, QZ2, hx2⟩ := hL2.qs
            obtain ⟨A6, c6, hb6, hx6, hy6⟩ := QZ2.rz.ex
            have d2 : wc.cell? ⟨q, 2, none⟩ = some (.int .i64 (n1 : Int)) := by rw [HN1.out.1]; exact hb6.cell 2
            have KC := Lib.hid (show ∀ X, Below wc.heap.size wc X → X.cell? ⟨gA, a, none⟩ = some (.slice Aj M cj) ∧ X.cell? ⟨q, 2, none⟩ = some (.int .i64 (n1 : Int)) from fun X hX => ⟨by
              obtain ⟨cs, h1, _⟩ := hL2.rw_
              exact (hX.cell (p := ⟨gA, a, none⟩) h1.lt).trans hcj, (hX.cell (p := ⟨q, 2, none⟩) QZ2.rz.lt2).trans d2⟩)
            have RJJ := Lib.hid hrj
            obtain ⟨bb, hbb⟩ : ∃ bb, bb = blank (Z.area D a) Z.n := ⟨_, rfl⟩
            have HBB := Lib.hid (show blank (Z.area D a) Z.n = bb from hbb.symm)
            have WA := Lib.hid (wrap_succ a (Nat.lt_of_lt_of_le HLT.out (by decide)))
            have SAM := Lib.hid (show ∀ X g, Below wc.heap.size wc X → Rd X (some ⟨g, 0, none⟩) M M (List.replicate M 0) → Calls Tryz.prog 26 #[.slice Aj M cj, .slice (some ⟨g, 0, none⟩) M M] X fun e w' => e = .returned (.bool bb) ∧ Below X.heap.size X w' from fun X g hX hr => (rsame_any Aj (some ⟨g, 0, none⟩) M cj M M _ _ X (RJJ.out.below hX) hr).mono fun e w' ⟨h1, x, h2⟩ => ⟨by
              rw [h1, hbb, HN1.out.2.2.2, HN1.out.1, same_blank], by rw [h2]; exact ⟨rfl, rfl, rfl, Nat.le_refl _, fun _ _ => rfl⟩⟩)
            have y2 : IntKind.i64.wrap (64 * (n1 : Int)) = (M : Int) := by
              have e : (64 : Int) * (n1 : Int) = (M : Int) := by rw [HN1.out.2.2.2]; simp
              rw [e]
              exact (wrap_nat M (big_of HN1.out.2.2.1 HN1.out.2.2.2)).2
            obtain ⟨i8, hi8, hz80, hz81, hz82⟩ := info_parts Tryz.infoU8
            have MK := Lib.hid (fun (X : World) (hX : wc.heap.size ≤ X.heap.size) => run_makeSlice_full (P := Tryz.prog) (w := X) wc.heap.size 23 5 i8 (.int .u8 0) 1 Tryz.underlying23 hi8 hz80 hz81 .i64 .i64 M (by have := big_of HN1.out.2.2.1 HN1.out.2.2.2; omega) (by rw [hz82]; have := big_of HN1.out.2.2.1 HN1.out.2.2.2; omega) (by unfold maxLen; have := big_of HN1.out.2.2.1 HN1.out.2.2.2; omega) hX)
            clear hL2 hcj hrj QZ2 hb6 hbb hi8 hz80 hz81 hz82 hx2 hx6 hy6
            go_upto_region 24 with (fail)
            clear d2
            cases e
            · refine wp_region_any (by kernel_rfl) ?_
              obtain ⟨wd, hwd⟩ : ∃ wd, wc.drew = wd := ⟨_, rfl⟩
              have B0 : Below wc.heap.size wc wd := by rw [← hwd]; exact (Below.refl _ _).drew
              change wpAny _ _ _ _ _ _ _ wc.drew
              rw [hwd]
              clear hwd
              refine wpAny_of_held (S := fun X => X.cell? ⟨gA, a, none⟩ = some (.slice Aj M cj) ∧ X.cell? ⟨q, 2, none⟩ = some (.int .i64 (n1 : Int))) _ _ _ _ ?_
              have HS0 := KC.out wd B0
              refine RD.h_take 0 (.bool false) rfl (by kernel_rfl) (by kernel_rfl) (by kernel_rfl) (fun _ _ _ h => h) (by rfl) HS0 (fun X hX => ?_) ?_
              · obtain ⟨h0, h1⟩ := hX
                go_simp
              simp only [Act.put, List.setIfInBounds_toArray, List.set_cons_zero, List.set_cons_succ]
              refine RD.h_take 1 (.bool false) rfl (by kernel_rfl) (by kernel_rfl) (by kernel_rfl) (fun _ _ _ h => h) (by rfl) HS0 (fun X hX => ?_) ?_
              · obtain ⟨h0, h1⟩ := hX
                go_simp
              simp only [Act.put, List.setIfInBounds_toArray, List.set_cons_zero, List.set_cons_succ]
              refine RD.h_take 2 (.int .i64 (a : Int)) rfl (by kernel_rfl) (by kernel_rfl) (by kernel_rfl) (fun _ _ _ h => h) (by rfl) HS0 (fun X hX => ?_) ?_
              · obtain ⟨h0, h1⟩ := hX
                go_simp
              simp only [Act.put, List.setIfInBounds_toArray, List.set_cons_zero, List.set_cons_succ]
              refine RD.h_take 3 (.pointer (some ⟨gA, a, none⟩)) rfl (by kernel_rfl) (by kernel_rfl) (by kernel_rfl) (fun _ _ _ h => h) (by rfl) HS0 (fun X hX => ?_) ?_
              · obtain ⟨h0, h1⟩ := hX
                go_simp
              simp only [Act.put, List.setIfInBounds_toArray, List.set_cons_zero, List.set_cons_succ]
              refine RD.h_take 4 (.slice Aj M cj) rfl (by kernel_rfl) (by kernel_rfl) (by kernel_rfl) (fun _ _ _ h => h) (by rfl) HS0 (fun X hX => ?_) ?_
              · obtain ⟨h0, h1⟩ := hX
                go_simp
              simp only [Act.put, List.setIfInBounds_toArray, List.set_cons_zero, List.set_cons_succ]
              refine RD.h_take 5 (.pointer (some ⟨q, 0, none⟩)) rfl (by kernel_rfl) (by kernel_rfl) (by kernel_rfl) (fun _ _ _ h => h) (by rfl) HS0 (fun X hX => ?_) ?_
              · obtain ⟨h0, h1⟩ := hX
                go_simp
              simp only [Act.put, List.setIfInBounds_toArray, List.set_cons_zero, List.set_cons_succ]
              refine RD.h_take 6 (.pointer (some ⟨q, 0, none⟩)) rfl (by kernel_rfl) (by kernel_rfl) (by kernel_rfl) (fun _ _ _ h => h) (by rfl) HS0 (fun X hX => ?_) ?_
              · obtain ⟨h0, h1⟩ := hX
                go_simp
              simp only [Act.put, List.setIfInBounds_toArray, List.set_cons_zero, List.set_cons_succ]
              refine RD.h_take 7 (.pointer (some ⟨q, 2, none⟩)) rfl (by kernel_rfl) (by kernel_rfl) (by kernel_rfl) (fun _ _ _ h => h) (by rfl) HS0 (fun X hX => ?_) ?_
              · obtain ⟨h0, h1⟩ := hX
                go_simp
              simp only [Act.put, List.setIfInBounds_toArray, List.set_cons_zero, List.set_cons_succ]
              refine RD.h_take 8 (.int .i64 (n1 : Int)) rfl (by kernel_rfl) (by kernel_rfl) (by kernel_rfl) (fun _ _ _ h => h) (by rfl) HS0 (fun X hX => ?_) ?_
              · obtain ⟨h0, h1⟩ := hX
                go_simp
              simp only [Act.put, List.setIfInBounds_toArray, List.set_cons_zero, List.set_cons_succ]
              refine RD.h_take 9 (.int .i64 (M : Int)) rfl (by kernel_rfl) (by kernel_rfl) (by kernel_rfl) (fun _ _ _ h => h) (by rfl) HS0 (fun X hX => ?_) ?_
              · obtain ⟨h0, h1⟩ := hX
                go_simp
              simp only [Act.put, List.setIfInBounds_toArray, List.set_cons_zero, List.set_cons_succ]
              refine RD.h_any [10] (by kernel_rfl) (by simp) (RD.one_of ?_)
              obtain ⟨w1, m1, m2, m3⟩ := MK.out wd B0.size
              have m2 : w1.ownsRow wc.heap.size 5 1 (.slice (some ⟨wd.heap.size, 0, none⟩) M M) M (bv (List.replicate M 0)) := by have h9 := m2; rw [Nat.mul_one] at h9; rw [← bv_zero]; exact h9
              have B1 : Below wc.heap.size wc w1 := B0.grown m3 B0.size (fun k h => by cases h)
              have m1' : (Instr.makeSlice 23 (.int .i64 (M : Int)) (.int .i64 (M : Int))).run Tryz.prog wd = .ok (.slice (some ⟨wd.heap.size, 0, none⟩) M M) w1 := m1
              have R1 := Lib.hid (Rd.own m2)
              clear m2 m3
              refine RD.h_run (.slice (some ⟨wd.heap.size, 0, none⟩) M M) w1 rfl (by rfl) (by go_simp) ⟨KC.out w1 B1, ?_⟩
              simp only [Act.put, List.setIfInBounds_toArray, List.set_cons_zero, List.set_cons_succ]
              refine RD.h_any [11] (by kernel_rfl) (by simp) (RD.one_of ?_)
              refine RD.h_call 26 #[.slice Aj M cj, .slice (some ⟨wd.heap.size, 0, none⟩) M M] rfl (by rfl) (by go_simp) ((SAM.out w1 _ B1 R1.out).mono ?_)
              rintro e w2 ⟨rfl, b2⟩
              have B2 := B1.trans (b2.mono B1.size)
              refine ⟨_, rfl, KC.out w2 B2, ?_⟩
              simp only [Act.put, List.setIfInBounds_toArray, List.set_cons_zero, List.set_cons_succ]
              refine RD.h_any [12] (by kernel_rfl) (by simp) (RD.one_of ?_)
              refine RD.h_run (.bool bb) w2 rfl (by rfl) (by go_simp) ⟨KC.out w2 B2, ?_⟩
              simp only [Act.put, List.setIfInBounds_toArray, List.set_cons_zero, List.set_cons_succ]
              refine RD.h_any [13] (by kernel_rfl) (by simp) (RD.one_of ?_)
              refine RD.h_run (.bool bb) w2 rfl (by rfl) (by go_simp) ⟨KC.out w2 B2, ?_⟩
              simp only [Act.put, List.setIfInBounds_toArray, List.set_cons_zero, List.set_cons_succ]
              refine RD.h_done (by kernel_rfl) ?_
              simp only [Exit.inBlock, Exit.then]
              go_wp2_with (fail)
              go_roundg (gk - 1)
              case rel => exact ⟨a + 1, by have := HGK.out; have := HLT.out; omega, HLT.out, by first | rw [WA.out] | go_num, by rw [EY.out]; simp [HBB.out], L2.out.grow B2⟩
              case measure => have := HGK.out; have := HLT.out; omega
            · refine wp_region_any (by kernel_rfl) ?_
              obtain ⟨wd, hwd⟩ : ∃ wd, wc.drew = wd := ⟨_, rfl⟩
              have B0 : Below wc.heap.size wc wd := by rw [← hwd]; exact (Below.refl _ _).drew
              change wpAny _ _ _ _ _ _ _ wc.drew
              rw [hwd]
              clear hwd
              refine wpAny_of_held (S := fun X => X.cell? ⟨gA, a, none⟩ = some (.slice Aj M cj) ∧ X.cell? ⟨q, 2, none⟩ = some (.int .i64 (n1 : Int))) _ _ _ _ ?_
              have HS0 := KC.out wd B0
              refine RD.h_take 0 (.bool true) rfl (by kernel_rfl) (by kernel_rfl) (by kernel_rfl) (fun _ _ _ h => h) (by rfl) HS0 (fun X hX => ?_) ?_
              · obtain ⟨h0, h1⟩ := hX
                go_simp
              simp only [Act.put, List.setIfInBounds_toArray, List.set_cons_zero, List.set_cons_succ]
              refine RD.h_take 1 (.bool true) rfl (by kernel_rfl) (by kernel_rfl) (by kernel_rfl) (fun _ _ _ h => h) (by rfl) HS0 (fun X hX => ?_) ?_
              · obtain ⟨h0, h1⟩ := hX
                go_simp
              simp only [Act.put, List.setIfInBounds_toArray, List.set_cons_zero, List.set_cons_succ]
              refine h_off 2 rfl (by kernel_rfl) (by kernel_rfl) (by kernel_rfl) (fun _ _ _ h => h) (by rfl) HS0 ?_
              simp only [Act.put, List.setIfInBounds_toArray, List.set_cons_zero, List.set_cons_succ]
              refine h_off 3 rfl (by kernel_rfl) (by kernel_rfl) (by kernel_rfl) (fun _ _ _ h => h) (by rfl) HS0 ?_
              simp only [Act.put, List.setIfInBounds_toArray, List.set_cons_zero, List.set_cons_succ]
              refine h_off 4 rfl (by kernel_rfl) (by kernel_rfl) (by kernel_rfl) (fun _ _ _ h => h) (by rfl) HS0 ?_
              simp only [Act.put, List.setIfInBounds_toArray, List.set_cons_zero, List.set_cons_succ]
              refine h_off 5 rfl (by kernel_rfl) (by kernel_rfl) (by kernel_rfl) (fun _ _ _ h => h) (by rfl) HS0 ?_
              simp only [Act.put, List.setIfInBounds_toArray, List.set_cons_zero, List.set_cons_succ]
              refine h_off 6 rfl (by kernel_rfl) (by kernel_rfl) (by kernel_rfl) (fun _ _ _ h => h) (by rfl) HS0 ?_
              simp only [Act.put, List.setIfInBounds_toArray, List.set_cons_zero, List.set_cons_succ]
              refine h_off 7 rfl (by kernel_rfl) (by kernel_rfl) (by kernel_rfl) (fun _ _ _ h => h) (by rfl) HS0 ?_
              simp only [Act.put, List.setIfInBounds_toArray, List.set_cons_zero, List.set_cons_succ]
              refine h_off 8 rfl (by kernel_rfl) (by kernel_rfl) (by kernel_rfl) (fun _ _ _ h => h) (by rfl) HS0 ?_
              simp only [Act.put, List.setIfInBounds_toArray, List.set_cons_zero, List.set_cons_succ]
              refine h_off 9 rfl (by kernel_rfl) (by kernel_rfl) (by kernel_rfl) (fun _ _ _ h => h) (by rfl) HS0 ?_
              simp only [Act.put, List.setIfInBounds_toArray, List.set_cons_zero, List.set_cons_succ]
              refine h_off 10 rfl (by kernel_rfl) (by kernel_rfl) (by kernel_rfl) (fun _ _ _ h => h) (by rfl) HS0 ?_
              simp only [Act.put, List.setIfInBounds_toArray, List.set_cons_zero, List.set_cons_succ]
              refine h_off 11 rfl (by kernel_rfl) (by kernel_rfl) (by kernel_rfl) (fun _ _ _ h => h) (by rfl) HS0 ?_
              simp only [Act.put, List.setIfInBounds_toArray, List.set_cons_zero, List.set_cons_succ]
              refine RD.h_take 12 (.bool true) rfl (by kernel_rfl) (by kernel_rfl) (by kernel_rfl) (fun _ _ _ h => h) (by rfl) HS0 (fun X hX => ?_) ?_
              · obtain ⟨h0, h1⟩ := hX
                go_simp
              simp only [Act.put, List.setIfInBounds_toArray, List.set_cons_zero, List.set_cons_succ]
              refine RD.h_take 13 (.bool true) rfl (by kernel_rfl) (by kernel_rfl) (by kernel_rfl) (fun _ _ _ h => h) (by rfl) HS0 (fun X hX => ?_) ?_
              · obtain ⟨h0, h1⟩ := hX
                go_simp
              simp only [Act.put, List.setIfInBounds_toArray, List.set_cons_zero, List.set_cons_succ]
              refine RD.h_done (by kernel_rfl) ?_
              simp only [Exit.inBlock, Exit.then]
              go_wp2_with (fail)
              go_roundg (gk - 1)
              case rel => exact ⟨a + 1, by have := HGK.out; have := HLT.out; omega, HLT.out, by first | rw [WA.out] | go_num, by rw [EY.out]; simp [HBB.out], L2.out.grow B0⟩
              case measure => have := HGK.out; have := HLT.out; omega
        · obtain rfl : a = 2 := by omega
          have t0 : ¬ ((2 : Nat) : Int) < 2 := by omega
          obtain ⟨S', QZ, hS'⟩ := hL.qs
          have MV := Lib.hid hL.mv
          have ho : ¬ D.off = true := by rw [HO.out]; simp
          have hsn : Z.seen D = zz Z D 2 := rfl
          have hem : (blank (Z.area D 0) Z.n || blank (Z.area D 1) Z.n) = em Z D 2 := by simp [em]
          obtain ⟨e, he⟩ : ∃ e, e = em Z D 2 := ⟨_, rfl⟩
          obtain ⟨z, hz⟩ : ∃ z, z = zz Z D 2 := ⟨_, rfl⟩
          rw [← he] at hem
          rw [← hz] at hsn QZ
          have el : Z.load D = { Z with at_ := z.1, num := z.2.1, b := z.2.2 } := by rw [Sl.load, if_neg ho, hsn]
          have ec : Z.loadC D = (if z.1 < 0 then (if e = true then 11 else 8) else 0) := by rw [Sl.loadC, if_neg ho, hsn, hem]
          have EL := Lib.hid el
          obtain ⟨A9, c9, hb9, hr9, hi9⟩ := QZ.rz.ex
          have k3 : wr.cell? ⟨q, 3, none⟩ = some (.int .i64 z.1) := hb9.cell 3
          have k4 : wr.cell? ⟨q, 4, none⟩ = some (.int .u64 (z.2.1 : Int)) := hb9.cell 4
          have k5 : wr.cell? ⟨q, 5, none⟩ = some (.slice A9 z.2.2.length c9) := hb9.cell 5
          have R9 := Lib.hid (show Rd wr A9 z.2.2.length c9 z.2.2 from hr9)
          have HB9 := Lib.hid hb9
          have HI9 := Lib.hid hi9
          have QZ' := Lib.hid QZ
          have HS' := Lib.hid hS'
          have PP := Lib.hid (show ∀ X, Below wr.heap.size wr X → (∀ b, S' b → S b ∨ w.heap.size ≤ b) ∧ Mv N (fun x => x = q) w X ∧ Qs N X h q L k D (Z.load D) G S' T from fun X hX => ⟨hS', hL.mv.trans (Mv.of (F := fun x => x = q) (rk_loN QZ.rk) hX) (fun b hb => .inl hb), by rw [el]; exact QZ.grow hX⟩)
          have EC := Lib.hid ec
          rw [← he]
          clear QZ hS' hL hb9 hr9 hi9 hem hsn he hz el ec
          obtain ⟨z1, z2, z3⟩ := z
          simp only at k3 k4 k5 R9 EC EL HB9 HI9
          by_cases hq : z1 < 0
          · cases e
            · have f1 : Z.loadC D = 8 := by rw [EC.out, if_pos hq, if_neg (by simp)]
              have f2 : Z.loadB D = [] := by rw [Sl.loadB, f1, if_neg (by omega)]
              have f3 : Z.loadN D = 0 := by rw [Sl.loadN, f1, if_neg (by omega)]
              go_wp2
              go_ret3
              unfold PostL
              rw [f1, f2, f3]
              obtain ⟨y1, y2, y3⟩ := PP.out _ (Below.refl _ _)
              exact ⟨none, 0, S', rfl, Rd.nil_ _, fun _ _ e => (by cases e), y3, y1, y2⟩
            · have f1 : Z.loadC D = 11 := by rw [EC.out, if_pos hq, if_pos rfl]
              have f2 : Z.loadB D = [] := by rw [Sl.loadB, f1, if_neg (by omega)]
              have f3 : Z.loadN D = 0 := by rw [Sl.loadN, f1, if_neg (by omega)]
              go_wp2
              go_ret3
              unfold PostL
              rw [f1, f2, f3]
              obtain ⟨y1, y2, y3⟩ := PP.out _ (Below.refl _ _)
              exact ⟨none, 0, S', rfl, Rd.nil_ _, fun _ _ e => (by cases e), y3, y1, y2⟩
          · have f1 : Z.loadC D = 0 := by rw [EC.out, if_neg hq]
            have f2 : Z.loadB D = z3 := by rw [Sl.loadB, if_pos f1, EL.out]
            have f3 : Z.loadN D = z2 := by rw [Sl.loadN, if_pos f1, EL.out]
            have BD := Lib.hid (Below.refl wr.heap.size wr).drew
            have KD := Lib.hid (show wr.drew.cell? ⟨q, 5, none⟩ = some (.slice A9 z3.length c9) ∧ wr.drew.cell? ⟨q, 4, none⟩ = some (.int .u64 (z2 : Int)) from ⟨k5, k4⟩)
            go_upto_region 29 with (fail)
            clear k3 k4 k5
            (go_region_held3 (fun X => X.cell? ⟨q, 5, none⟩ = some (.slice A9 z3.length c9) ∧ X.cell? ⟨q, 4, none⟩ = some (.int .u64 (z2 : Int))) (exact KD.out) (fail))
            go_wp2
            go_ret3
            unfold PostL
            rw [f1, f2, f3]
            obtain ⟨y1, y2, y3⟩ := PP.out _ BD.out
            exact ⟨A9, c9, S', rfl, R9.out.below BD.out, HI9.out, y3, y1, y2⟩
theorem rload20_any (N : Nat) (w : World) (h q : Nat) (L : Value) (k : Nat) (D : Dk) (Z : Sl) (G S T : Nat → Prop) (t : Qs N w h q L k D Z G S T) :
    Calls Tryz.prog 38 #[.pointer (some ⟨q, 0, none⟩)] w (PostL N h q k L D Z G S T w) := by
  by_cases ho : D.off = true
  · exact rload20_off N w h q L k D Z G S T t ho
  · exact rload20_on N w h q L k D Z G S T t (by simpa using ho)
end Go.Proofs.YtnoflgkjdibblaaGreatDoor.S20

/-
  The landed disk and slots together; the statements' first question of layer 20, over the contracts. No statement is proved here. (Written by gensla.py.)
-/
namespace Go.Proofs.YtnoflgkjdibblaaGreatDoor.S20
set_option linter.unusedSimpArgs false
set_option linter.unusedVariables false
set_option maxRecDepth 4096
open Go.RowKit S19

/-- 'string(b)' of bytes that read. -/
theorem rd_convert {w : World} {A : Option Addr} {n c : Nat} {xs : List UInt8} (h : Rd w A n c xs) :
    (convert 23 9 (.slice A n c)).run Tryz.prog w = .ok (.string ⟨xs.toArray⟩) w := by
  rcases Nat.eq_zero_or_pos n with hn | hn
  · subst hn
    obtain rfl : xs = [] := List.eq_nil_of_length_eq_zero h.len
    rw [run_convert_bytes_string w 23 9 5 _ 0 c Tryz.underlying23 Tryz.underlying5 Tryz.underlying9]
    cases A <;> simp [Conv.bytesToString, loadCells]
    all_goals rfl
  · obtain ⟨b, o, rfl, _, hc⟩ := h.at_ hn
    have e := run_convert_bytes_arg (P := Tryz.prog) w 23 5 Tryz.underlying23 Tryz.underlying5 b o n c (xs.map fun x => (x.toNat : Int)) (by simp [h.len])
      (fun i hi => by
        have hl : i < xs.length := by have := h.len; omega
        rw [hc i hi]; simp [List.getD, hl]) 9 Tryz.underlying9
    rw [e]
    have : strOfNums (xs.map fun x => (x.toNat : Int)) = ⟨xs.toArray⟩ := by
      simp [strOfNums, Function.comp_def]
    rw [this]
/-- The landed disk and slots, apart. -/
structure Lz (M : DC) (C : SlC M) (N : Nat) (w : World) (g s : Nat) (D : Dk) (Z : Sl) (F S : Nat → Prop) : Prop where
  is : M.Is N w g D F
  sl : C.Is N w s g Z S
  dj : ∀ b, F b → ¬ S b
  zo : Z.Ok D
section
variable {M : DC} {C : SlC M} {N : Nat} {w w' : World} {g s : Nat} {D : Dk} {Z : Sl} {F S : Nat → Prop}
theorem Lz.grow (t : Lz M C N w g s D Z F S) (hb : Below w.heap.size w w') : Lz M C N w' g s D Z F S :=
  ⟨M.keep t.is hb.size fun b _ hl => hb.block b hl, C.keep t.sl hb.size fun b _ hl => hb.block b hl, t.dj, t.zo⟩
/-- The disk alone has moved. -/
theorem Lz.disk (t : Lz M C N w g s D Z F S) {D' : Dk} {F' : Nat → Prop} (hI : M.Is N w' g D' F') (hs : ∀ b, F' b → F b ∨ w.heap.size ≤ b) (m : Mv N F w w') (hl : D'.sure.length = D.sure.length) : Lz M C N w' g s D' Z F' S := by
  refine ⟨hI, C.keep t.sl m.size fun b hb hlt => m.same b hlt fun hF => ?_, fun b hF hS => ?_, ⟨t.zo.one, t.zo.most, by rw [hl]; exact t.zo.fits, t.zo.at_, t.zo.num⟩⟩
  · rcases hb with e | e
    · have := (M.lt t.is b hF).1; omega
    · exact t.dj b hF e
  · rcases hs b hF with e | e
    · exact t.dj b e hS
    · have := (C.lt t.sl b hS).2; omega
theorem Lz.now (t : Lz M C N w g s D Z F S) (hk : C.ok w) : Calls Tryz.prog 54 #[.pointer (some ⟨s, 0, none⟩)] w fun e w' => ∃ A c, e = .returned (.tuple #[.slice A Z.b.length c, .int .u64 (Z.num : Int)]) ∧ Rd w' A Z.b.length c Z.b ∧ (∀ a, 0 < Z.b.length → A = some a → ¬ Or2 F S a.block) ∧ Lz M C N w' g s D Z F S ∧ Below N w w' :=
  (C.now N w s g Z S hk t.sl).mono fun e w' ⟨A, c, h1, h2, h0, h3, h4⟩ => ⟨A, c, h1, h2, fun a q1 q2 hO => hO.elim (fun e => by have q3 := h0 a q1 q2; have := (M.lt t.is _ e).2; omega) (fun e => by have q3 := h0 a q1 q2; have := (C.lt t.sl _ e).2; omega), ⟨M.keep t.is h4.size fun b hb hl => h4.same b hl fun hS => (by
    rcases hb with e | e
    · have := (C.lt t.sl b hS).1; omega
    · exact t.dj b e hS), h3, t.dj, t.zo⟩, h4.bel⟩
theorem Lz.load (t : Lz M C N w g s D Z F S) (hk : C.ok w) : Calls Tryz.prog 34 #[.pointer (some ⟨s, 0, none⟩)] w fun e w' => ∃ A c F' S', e = .returned (.tuple #[.slice A (Z.loadB D).length c, .int .u64 (Z.loadN D : Int), .int .i64 (Z.loadC D : Int)]) ∧ Rd w' A (Z.loadB D).length c (Z.loadB D) ∧ (∀ a, 0 < (Z.loadB D).length → A = some a → ¬ Or2 F' S' a.block) ∧ Lz M C N w' g s D (Z.load D) F' S' ∧ (∀ b, Or2 F' S' b → Or2 F S b ∨ w.heap.size ≤ b) ∧ Mv N (Or2 F S) w w' :=
  (C.load N w s g D Z F S hk t.is t.sl t.dj t.zo).mono fun e w' ⟨A, c, F', S', h1, h2, h0, h3, h4, h5, h6, h7⟩ => ⟨A, c, F', S', h1, h2, fun a q1 q2 => (h0 a q1 q2).2, ⟨h3, h4, h6, load_ok t.zo⟩, h5, h7⟩
theorem Lz.save (t : Lz M C N w g s D Z F S) (hk : C.ok w) {A : Option Addr} {n c : Nat} {b : List UInt8} (hr : Rd w A n c b) (hA : ∀ a, 0 < n → A = some a → ¬ Or2 F S a.block) (hc : D.cnt < 1099511627000) : Calls Tryz.prog 35 #[.pointer (some ⟨s, 0, none⟩), .slice A n c] w fun e w' => e = .returned (.int .i64 (Z.saveC D b : Int)) ∧ ∃ F' S', Lz M C N w' g s (Z.saveD D b) (Z.save D b) F' S' ∧ (∀ b, Or2 F' S' b → Or2 F S b ∨ w.heap.size ≤ b) ∧ Mv N (Or2 F S) w w' :=
  (C.save N w s g D Z F S A n c b hk t.is t.sl t.dj t.zo hr hA hc).mono fun e w' ⟨h1, F', S', h2, h3, h4, h5, h6⟩ => ⟨h1, F', S', ⟨h2, h3, h5, save_ok t.zo b⟩, h4, h6⟩
theorem Lz.lt (t : Lz M C N w g s D Z F S) : ∀ b, Or2 F S b → N ≤ b ∧ b < w.heap.size := by
  rintro b (e | e)
  · exact M.lt t.is b e
  · exact C.lt t.sl b e
end
end Go.Proofs.YtnoflgkjdibblaaGreatDoor.S20

/-
  The walk of layer 20's fifth statement (SlotsFull), over the contracts. No statement is proved here. (Written by gensll1.py.)
-/
namespace Go.Proofs.YtnoflgkjdibblaaGreatDoor.S20
set_option linter.unusedSimpArgs false
set_option linter.unusedVariables false
set_option maxRecDepth 4096
open Go.RowKit S19

end Go.Proofs.YtnoflgkjdibblaaGreatDoor.S20

/-
  The walk of layer 20's fourth statement (SlotsBlank), over the contracts. No statement is proved here. (Written by gensll3.py.)
-/
namespace Go.Proofs.YtnoflgkjdibblaaGreatDoor.S20
set_option linter.unusedSimpArgs false
set_option linter.unusedVariables false
set_option maxRecDepth 4096
open Go.RowKit S19

end Go.Proofs.YtnoflgkjdibblaaGreatDoor.S20
