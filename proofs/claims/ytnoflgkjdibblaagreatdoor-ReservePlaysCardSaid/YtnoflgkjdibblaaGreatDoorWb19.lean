/-
  Texts put together: RvK, RvL, Rv3, Rv7, Rv9, RvA. No statement is proved here.
-/
import Derived.Test.YtnoflgkjdibblaaGreatDoorWb17
import Derived.Test.YtnoflgkjdibblaaGreatDoorWb18
import Derived.Test.YtnoflgkjdibblaaGreatDoorWb15
import Derived.Test.YtnoflgkjdibblaaGreatDoorWb13
import Derived.Test.YtnoflgkjdibblaaGreatDoorWb05
import Derived.ChangeKeysEq

/-
  The document's own Open. No statement is proved here. (Written by genrvk.py.)
-/
namespace Go.Proofs.YtnoflgkjdibblaaGreatDoor.S21
set_option linter.unusedSimpArgs false
set_option linter.unusedVariables false
set_option maxRecDepth 4096
open Go.RowKit S19 S20

abbrev zK : Array Value := #[.bool false, .int .u64 0, .int .u64 0, .int .u64 0, .int .u64 0, .bool false, .slice none 0 0, .pointer none]
/-- What a call that makes or opens a counter leaves: code v. -/
def PostO (N : Nat) (h q k : Nat) (G S T : Nat → Prop) (w : World) (v : Nat) (D' : Dk) (Z' : Sl) (x : Cn) (hd : List UInt8) (e : Ending) (w' : World) : Prop :=
  ∃ kc L' k' G' S' T', e = .returned (.tuple #[.pointer (some ⟨kc, 0, none⟩), .int .i64 (v : Int)]) ∧ k' ≤ k + 1 ∧ Qs N w' h q L' k' D' Z' G' S' T' ∧ Sub3 G S T G' S' T' w.heap.size ∧ Mv N (Or3 G (fun x => x = q) T) w w' ∧ w.heap.size ≤ kc ∧
    (v = 0 → ∃ K, Qc N w' h q kc L' k' D' Z' x hd G' S' T' K ∧ ∀ b, K b → S' b ∨ w.heap.size ≤ b) ∧ (v ≠ 0 → Bk w' kc 48 zK ∧ ¬ Or3 G' S' T' kc)
theorem Sub3.of {G S T S' : Nat → Prop} {n : Nat} (h : ∀ b, S' b → S b ∨ n ≤ b) : Sub3 G S T G S' T n := ⟨fun _ e => .inl e, h, fun _ e => .inl e⟩
theorem Qs.not_new {N : Nat} {w : World} {h q k : Nat} {L : Value} {D : Dk} {Z : Sl} {G S T : Nat → Prop} (t : Qs N w h q L k D Z G S T) {b : Nat} (hb : w.heap.size ≤ b) : ¬ Or3 G S T b := fun e => by have := (t.lt b e).2; omega
theorem Qs.low {N : Nat} {w : World} {h q k : Nat} {L : Value} {D : Dk} {Z : Sl} {G S T : Nat → Prop} (t : Qs N w h q L k D Z G S T) {b : Nat} (e : Or3 G (fun x => x = q) T b) : N ≤ b ∧ b < w.heap.size := by
  rcases e with e | e | e
  · exact t.lt b (.inl e)
  · have e' : b = q := e; rw [e']; exact t.lt q (.inr (.inl t.rz.at_))
  · exact t.lt b (.inr (.inr e))
/-- A counter that is new, its head in the slots' own memory, or below. -/
theorem Qc.made {N : Nat} {w : World} {h q k kc : Nat} {L : Value} {D : Dk} {Z : Sl} {G S T : Nat → Prop} (t : Qs N w h q L k D Z G S T) {x : Cn} {hd : List UInt8} {A : Option Addr} {c : Nat} (hk : kc = w.heap.size) (hr : Rd w A hd.length c hd) (hA : ∀ a, 0 < hd.length → A = some a → a.block < N ∨ (S a.block ∧ a.block ≠ q)) :
    ∃ K, Qc N (w.alloc (.cells (rcA x A hd.length c q) 48)) h q kc L k D Z x hd G S T K ∧ ∀ b, K b → S b ∨ w.heap.size ≤ b := by
  have hB : Below w.heap.size w (w.alloc (.cells (rcA x A hd.length c q) 48)) := (Below.refl _ _).alloc (Nat.le_refl _) _
  refine ⟨fun b => b = kc ∨ (S b ∧ b ≠ q), ⟨t.grow hB, ⟨⟨A, c, Bk.newAt _ _ _ _ hk.symm, hr.below hB, fun a h0 ha => ?_⟩, .inl rfl, fun b hb => ?_⟩, fun b hb e => ?_, fun e => ?_⟩, fun b hb => ?_⟩
  · rcases hA a h0 ha with e | e
    · exact ⟨.inl e, by have := rk_loN t.rk; omega⟩
    · exact ⟨.inr (.inr e), by have := (t.rz.lt _ e.1).2; omega⟩
  · have hs : (w.alloc (.cells (rcA x A hd.length c q) 48)).heap.size = w.heap.size + 1 := by simp
    have hn := rk_loN t.rk
    rcases hb with e | e
    · omega
    · have := t.rz.lt b e.1; omega
  · rcases hb with e2 | e2
    · have := (Qs.low t e).2; omega
    · rcases e with e | e | e
      · exact t.gs b e e2.1
      · exact e2.2 e
      · exact t.st b e2.1 e
  · have := (t.rz.lt kc e).2; omega
  · rcases hb with e | e
    · exact .inr (by omega)
    · exact .inl e.1
set_option maxHeartbeats 8000000 in
theorem ropen21_any (N : Nat) (w : World) (h q : Nat) (L : Value) (k : Nat) (D : Dk) (Z : Sl) (G S T : Nat → Prop) (t : Qs N w h q L k D Z G S T) :
    Calls Tryz.prog 22 #[.pointer (some ⟨q, 0, none⟩)] w (PostO N h q k G S T w (Cn.openC Z D) D (Z.load D) (Cn.openX Z D) (Cn.openH Z D)) := by
  have hNw : N ≤ w.heap.size := rk_loN t.rk
  have hq := t.rz.lt2
  have CL := Lib.hid (rload20_any N w h q L k D Z G S T t)
  unfold PostL at CL
  obtain ⟨rb, hrb⟩ : ∃ r, r = Z.loadB D := ⟨_, rfl⟩
  obtain ⟨lc, hlc⟩ : ∃ r, r = Z.loadC D := ⟨_, rfl⟩
  obtain ⟨ln, hln⟩ : ∃ r, r = Z.loadN D := ⟨_, rfl⟩
  obtain ⟨lb, hlb⟩ : ∃ r, r = rb.length := ⟨_, rfl⟩
  rw [← hrb, ← hlc, ← hln, ← hlb] at CL
  have CR := Lib.hid (show ∀ X A c, Rd X A lb c rb → Calls Tryz.prog 47 #[.slice A lb c] X fun e w' => ∃ A' c', e = .returned (.tuple #[.agg (Cn.readX rb).cells, .slice A' (Cn.readH rb).length c', .int .i64 (Cn.readC rb : Int)]) ∧ Rd w' A' (Cn.readH rb).length c' (Cn.readH rb) ∧ (∀ a, A' = some a → ∃ a0, A = some a0 ∧ a0.block = a.block) ∧ Below X.heap.size X w' from fun X A c hR => rread21_any A lb c rb X hR)
  obtain ⟨rc, hrc⟩ : ∃ r, r = Cn.readC rb := ⟨_, rfl⟩
  obtain ⟨rh, hrh⟩ : ∃ r, r = Cn.readH rb := ⟨_, rfl⟩
  obtain ⟨lh, hlh⟩ : ∃ r, r = rh.length := ⟨_, rfl⟩
  obtain ⟨y, hy⟩ : ∃ r, r = Cn.readX rb := ⟨_, rfl⟩
  rw [← hrc, ← hrh, ← hlh, ← hy] at CR
  have hoc : Cn.openC Z D = if lc = 0 then rc else lc := by rw [Cn.openC, ← hlc, ← hrb, ← hrc]
  have hox : rc = 0 → y = Cn.openX Z D ∧ rh = Cn.openH Z D := fun e => by rw [hy, hrh, Cn.readX, Cn.readH, ← hrc, e, if_pos rfl, if_pos rfl, hrb]; exact ⟨rfl, rfl⟩
  have hlb2 : rc = 0 → 0 < lb := fun e => by
    rw [hrc] at e
    unfold Cn.readC at e
    split at e
    · omega
    · rename_i h9; omega
  obtain ⟨y0, y1, y2, y3, y4⟩ := y
  unfold Cn.cells at CR
  simp only at CR
  have HOX := Lib.hid hox
  have HLB := Lib.hid hlb2
  have HLH := Lib.hid hlh
  have HNW := Lib.hid hNw
  clear hrb hlc hln hlb hrc hrh hlh hy hox hlb2 t hNw
  by_cases z : lc = 0
  rotate_left
  · rw [hoc, if_neg z]
    have zz : ¬ (lc : Int) = 0 := by omega
    have Z0 := Lib.hid z
    clear hoc
    go_enter Tryz.func22, Tryz.ntmps22
    go_wp2_with (first
      | (go_at_call 38; ((with_reducible refine CL.out.mono ?_); rintro e w1 ⟨A1, c1, S1, rfl, r1, i1, q1, s1, m1⟩; have R1 := Lib.hid r1; have I1 := Lib.hid i1; have Q1 := Lib.hid q1; have S1' := Lib.hid s1; have M1 := Lib.hid m1; clear r1 i1 q1 s1 m1)))
    go_ret2
    have BZ : Below w1.heap.size w1 (w1.alloc (.cells zK 48)) := (Below.refl _ _).alloc (Nat.le_refl _) _
    exact ⟨w1.heap.size, L, k, G, S1, T, rfl, by omega, Q1.out.grow BZ, Sub3.of S1'.out, (M1.out.trans (Mv.of (F := fun x => x = q) (Nat.le_trans HNW.out M1.out.size) BZ) fun b hb => .inl hb).mono fun b hb => .inr (.inl hb), M1.out.size, fun e => absurd e Z0.out, fun _ => ⟨Bk.newAt _ _ _ _ rfl, Qs.not_new Q1.out (Nat.le_refl _)⟩⟩
  rw [hoc, if_pos z]
  subst z
  clear hoc
  by_cases z : rc = 0
  rotate_left
  · have zz : ¬ (rc : Int) = 0 := by omega
    have Z0 := Lib.hid z
    go_enter Tryz.func22, Tryz.ntmps22
    go_upto_region 5 with (first
      | (go_at_call 38; ((with_reducible refine CL.out.mono ?_); rintro e w1 ⟨A1, c1, S1, rfl, r1, i1, q1, s1, m1⟩; have R1 := Lib.hid r1; have I1 := Lib.hid i1; have Q1 := Lib.hid q1; have S1' := Lib.hid s1; have M1 := Lib.hid m1; clear r1 i1 q1 s1 m1))
      | (go_at_call 47; ((with_reducible refine (CR.out _ _ _ R1.out).mono ?_); rintro e w2 ⟨A2, c2, rfl, r2, a2, b2⟩; have R2 := Lib.hid r2; have AL2 := Lib.hid a2; have B2 := Lib.hid b2; clear r2 a2 b2; obtain ⟨gy, hgy⟩ : ∃ g, g = w2.heap.size := ⟨_, rfl⟩)))
    rw [← hgy]
    have M3 := Lib.hid (show Bk (w2.alloc (.cells #[.int .u64 (y0 : Int), .int .u64 (y1 : Int), .int .u64 (y2 : Int), .int .u64 (y3 : Int), .bool y4] 46)) gy 46 #[.int .u64 (y0 : Int), .int .u64 (y1 : Int), .int .u64 (y2 : Int), .int .u64 (y3 : Int), .bool y4] from Bk.newAt _ _ _ _ hgy.symm)
    have B3 := Lib.hid (show Below w1.heap.size w1 (w2.alloc (.cells #[.int .u64 (y0 : Int), .int .u64 (y1 : Int), .int .u64 (y2 : Int), .int .u64 (y3 : Int), .bool y4] 46)) from B2.out.alloc B2.out.size _)
    have B23 := Lib.hid (show Below w2.heap.size w2 (w2.alloc (.cells #[.int .u64 (y0 : Int), .int .u64 (y1 : Int), .int .u64 (y2 : Int), .int .u64 (y3 : Int), .bool y4] 46)) from (Below.refl _ _).alloc (Nat.le_refl _) _)
    clear hgy
    generalize w2.alloc (.cells #[.int .u64 (y0 : Int), .int .u64 (y1 : Int), .int .u64 (y2 : Int), .int .u64 (y3 : Int), .bool y4] 46) = w3 at *
    have Q3 := Lib.hid (Q1.out.grow B3.out)
    have MV3 := Lib.hid (M1.out.trans (Mv.of (F := fun x => x = q) (Nat.le_trans HNW.out M1.out.size) B3.out) fun b hb => .inl hb)
    go_wp2
    go_ret2
    have BZ : Below w3.heap.size w3 (w3.alloc (.cells zK 48)) := (Below.refl _ _).alloc (Nat.le_refl _) _
    exact ⟨w3.heap.size, L, k, G, S1, T, rfl, by omega, Q3.out.grow BZ, Sub3.of S1'.out, (MV3.out.trans (Mv.of (F := fun x => x = q) (Nat.le_trans HNW.out MV3.out.size) BZ) fun b hb => .inl hb).mono fun b hb => .inr (.inl hb), MV3.out.size, fun e => absurd e Z0.out, fun _ => ⟨Bk.newAt _ _ _ _ rfl, Qs.not_new Q3.out (Nat.le_refl _)⟩⟩
  · obtain ⟨e1, e2⟩ := HOX.out z
    have HB0 := Lib.hid (HLB.out z)
    rw [← e1, ← e2]
    subst z
    clear e1 e2 HOX
    go_enter Tryz.func22, Tryz.ntmps22
    go_upto_region 5 with (first
      | (go_at_call 38; ((with_reducible refine CL.out.mono ?_); rintro e w1 ⟨A1, c1, S1, rfl, r1, i1, q1, s1, m1⟩; have R1 := Lib.hid r1; have I1 := Lib.hid i1; have Q1 := Lib.hid q1; have S1' := Lib.hid s1; have M1 := Lib.hid m1; clear r1 i1 q1 s1 m1))
      | (go_at_call 47; ((with_reducible refine (CR.out _ _ _ R1.out).mono ?_); rintro e w2 ⟨A2, c2, rfl, r2, a2, b2⟩; have R2 := Lib.hid r2; have AL2 := Lib.hid a2; have B2 := Lib.hid b2; clear r2 a2 b2; obtain ⟨gy, hgy⟩ : ∃ g, g = w2.heap.size := ⟨_, rfl⟩)))
    rw [← hgy]
    have M3 := Lib.hid (show Bk (w2.alloc (.cells #[.int .u64 (y0 : Int), .int .u64 (y1 : Int), .int .u64 (y2 : Int), .int .u64 (y3 : Int), .bool y4] 46)) gy 46 #[.int .u64 (y0 : Int), .int .u64 (y1 : Int), .int .u64 (y2 : Int), .int .u64 (y3 : Int), .bool y4] from Bk.newAt _ _ _ _ hgy.symm)
    have B3 := Lib.hid (show Below w1.heap.size w1 (w2.alloc (.cells #[.int .u64 (y0 : Int), .int .u64 (y1 : Int), .int .u64 (y2 : Int), .int .u64 (y3 : Int), .bool y4] 46)) from B2.out.alloc B2.out.size _)
    have B23 := Lib.hid (show Below w2.heap.size w2 (w2.alloc (.cells #[.int .u64 (y0 : Int), .int .u64 (y1 : Int), .int .u64 (y2 : Int), .int .u64 (y3 : Int), .bool y4] 46)) from (Below.refl _ _).alloc (Nat.le_refl _) _)
    clear hgy
    generalize w2.alloc (.cells #[.int .u64 (y0 : Int), .int .u64 (y1 : Int), .int .u64 (y2 : Int), .int .u64 (y3 : Int), .bool y4] 46) = w3 at *
    have Q3 := Lib.hid (Q1.out.grow B3.out)
    have MV3 := Lib.hid (M1.out.trans (Mv.of (F := fun x => x = q) (Nat.le_trans HNW.out M1.out.size) B3.out) fun b hb => .inl hb)
    have m0 : w3.cell? ⟨gy, 0, none⟩ = some (.int .u64 (y0 : Int)) := M3.out.cell 0
    have m1 : w3.cell? ⟨gy, 1, none⟩ = some (.int .u64 (y1 : Int)) := M3.out.cell 1
    have m2 : w3.cell? ⟨gy, 2, none⟩ = some (.int .u64 (y2 : Int)) := M3.out.cell 2
    have m3 : w3.cell? ⟨gy, 3, none⟩ = some (.int .u64 (y3 : Int)) := M3.out.cell 3
    have m4 : w3.cell? ⟨gy, 4, none⟩ = some (.bool y4) := M3.out.cell 4
    go_wp2
    go_ret2
    have hR3 := R2.out.below B23.out
    rw [HLH.out] at hR3
    obtain ⟨K, hQ, hK⟩ := Qc.made (kc := w3.heap.size) (x := ⟨y0, y1, y2, y3, y4⟩) Q3.out rfl hR3 (fun a h0 ha => by obtain ⟨a0, h1, h2⟩ := AL2.out a ha; have h3 := I1.out a0 HB0.out h1; rw [h2] at h3; exact .inr h3)
    rw [← HLH.out] at hQ
    have BZ : Below w3.heap.size w3 (w3.alloc (.cells (rcA ⟨y0, y1, y2, y3, y4⟩ A2 lh c2 q) 48)) := (Below.refl _ _).alloc (Nat.le_refl _) _
    exact ⟨w3.heap.size, L, k, G, S1, T, rfl, by omega, hQ.qs, Sub3.of S1'.out, (MV3.out.trans (Mv.of (F := fun x => x = q) (Nat.le_trans HNW.out MV3.out.size) BZ) fun b hb => .inl hb).mono fun b hb => .inr (.inl hb), MV3.out.size, fun _ => ⟨K, hQ, fun b hb => (hK b hb).imp id (Nat.le_trans MV3.out.size)⟩, fun e => absurd rfl e⟩
end Go.Proofs.YtnoflgkjdibblaaGreatDoor.S21

/-
  The document's own New. No statement is proved here. (Written by genrvl.py.)
-/
namespace Go.Proofs.YtnoflgkjdibblaaGreatDoor.S21
set_option linter.unusedSimpArgs false
set_option linter.unusedVariables false
set_option maxRecDepth 4096
open Go.RowKit S19 S20

set_option maxHeartbeats 8000000 in
theorem rnew21_any (N : Nat) (w : World) (h q : Nat) (L : Value) (k : Nat) (D : Dk) (Z : Sl) (G S T : Nat → Prop) (t : Qs N w h q L k D Z G S T) (A : Option Addr) (n c : Nat) (hd : List UInt8) (hr : Rd w A n c hd) (hA : ∀ a, 0 < n → A = some a → a.block < N) (tot bat : Nat) (ht : tot < 18446744073709551616) (hb : bat < 18446744073709551616) (hc : D.cnt < 1099511627000) (hk : k < 1000000) :
    Calls Tryz.prog 11 #[.pointer (some ⟨q, 0, none⟩), .slice A n c, .int .u64 (tot : Int), .int .u64 (bat : Int)] w (PostO N h q k G S T w (Cn.newC tot bat hd Z D) (Cn.newD tot bat hd Z D) (Cn.newZ tot bat hd Z D) (Cn.fresh tot bat) hd) := by
  have hNw : N ≤ w.heap.size := rk_loN t.rk
  have hNq := (t.rz.lt q t.rz.at_).1
  have hl := hr.len
  obtain ⟨gx, hgx⟩ : ∃ g, g = w.heap.size := ⟨_, rfl⟩
  have HGX := Lib.hid hgx
  have NEQ := Lib.hid (show gx ≠ q from fun e => by have := t.rz.lt2; omega)
  have LOW := Lib.hid (show ∀ b, Or3 G (fun x => x = q) T b → N ≤ b ∧ b < w.heap.size from fun b e => Qs.low t e)
  have HRM := Lib.hid (show ∀ X F, Mv N F w X → (∀ b, F b → N ≤ b) → Rd X A n c hd from fun X F m hF => m.rd hr fun a h0 ha e => by have := hA a h0 ha; have := hF _ e; omega)
  have CL := Lib.hid (show ∀ X, Below w.heap.size w X → Calls Tryz.prog 38 #[.pointer (some ⟨q, 0, none⟩)] X (PostL N h q k L D Z G S T X) from fun X hX => rload20_any N X h q L k D Z G S T (t.grow hX))
  unfold PostL at CL
  have CM := Lib.hid (fun X => rmay21_any (Cn.fresh tot bat) A n c X)
  have hff : (Cn.fresh tot bat).Fit := ⟨ht, hb, by show 0 < _; omega, by show 0 < _; omega⟩
  obtain ⟨row, hrow⟩ : ∃ r, r = (Cn.fresh tot bat).row hd := ⟨_, rfl⟩
  obtain ⟨lr, hlr⟩ : ∃ r, r = row.length := ⟨_, rfl⟩
  have CB := Lib.hid (show (Cn.fresh tot bat).May hd.length → ∀ X, Rd X A n c hd → Calls Tryz.prog 39 #[.agg (Cn.fresh tot bat).cells, .slice A n c] X fun e w' => ∃ A' c', e = .returned (.tuple #[.slice A' lr c', .int .i64 0]) ∧ Rd w' A' lr c' row ∧ (∀ a, 0 < lr → A' = some a → X.heap.size ≤ a.block) ∧ Below X.heap.size X w' from fun hm X hR => by rw [hlr, hrow]; exact bytes_call hR hm hff X (Below.refl _ _))
  obtain ⟨lb, hlb⟩ : ∃ r, r = (Z.loadB D).length := ⟨_, rfl⟩
  obtain ⟨lc, hlc⟩ : ∃ r, r = Z.loadC D := ⟨_, rfl⟩
  obtain ⟨ln, hln⟩ : ∃ r, r = Z.loadN D := ⟨_, rfl⟩
  obtain ⟨Z1, hZ1⟩ : ∃ r, r = Z.load D := ⟨_, rfl⟩
  obtain ⟨sc, hsc⟩ : ∃ r, r = Z1.saveC D row := ⟨_, rfl⟩
  rw [← hlb, ← hlc, ← hln, ← hZ1] at CL
  have CS := Lib.hid (show ∀ X S1 A' c', Qs N X h q L k D Z1 G S1 T → w.heap.size ≤ X.heap.size → Rd X A' lr c' row → (∀ a, 0 < lr → A' = some a → w.heap.size ≤ a.block) → Calls Tryz.prog 40 #[.pointer (some ⟨q, 0, none⟩), .slice A' lr c'] X (PostS N h q k G S1 T X (Z1.saveD D row) (Z1.save D row) (.int .i64 (sc : Int))) from fun X S1 A' c' hQ hX hR hA' => by rw [hsc]; exact rsave20_any N X h q L k D Z1 G S1 T hQ A' lr c' row hR (fun a h0 ha hO => by have := hA' a h0 ha; have := (LOW.out _ hO).2; omega) hc hk)
  unfold PostS at CS
  have NC := Lib.hid (show ((Cn.fresh tot bat).May hd.length → Cn.newC tot bat hd Z D = (if lc = 0 then 10 else if lc = 11 then sc else lc) ∧ Cn.newZ tot bat hd Z D = (if lc = 11 then Z1.save D row else Z1) ∧ Cn.newD tot bat hd Z D = (if lc = 11 then Z1.saveD D row else D)) ∧ (¬ (Cn.fresh tot bat).May hd.length → Cn.newC tot bat hd Z D = 1 ∧ Cn.newZ tot bat hd Z D = Z ∧ Cn.newD tot bat hd Z D = D) from
    ⟨fun g => ⟨by rw [Cn.newC, if_pos g, ← hlc, ← hrow, ← hZ1, ← hsc], by rw [Cn.newZ, if_pos g, ← hlc, ← hrow, ← hZ1], by rw [Cn.newD, if_pos g, ← hlc, ← hrow, ← hZ1]⟩, fun g => ⟨by rw [Cn.newC, if_neg g], by rw [Cn.newZ, if_neg g], by rw [Cn.newD, if_neg g]⟩⟩)
  have QT := Lib.hid t
  have HNW := Lib.hid hNw
  have HNQ := Lib.hid hNq
  have HA := Lib.hid hA
  have HL := Lib.hid hl
  have GR1 := Lib.hid (show ∀ X, Mv N (fun b => b = q) w X → ∀ b, b < w.heap.size → b ≠ q → X.heap[b]? = w.heap[b]? from fun X m b h1 h2 => m.same b h1 h2)
  obtain ⟨w1, hw1⟩ : ∃ w1, w1 = w.alloc (.cells #[.int .u64 (tot : Int), .int .u64 (bat : Int), .int .u64 0, .int .u64 0, .bool false] 46) := ⟨_, rfl⟩
  have HW1 := Lib.hid hw1
  have X1 := Lib.hid (show Bk w1 gx 46 #[.int .u64 (tot : Int), .int .u64 (bat : Int), .int .u64 0, .int .u64 0, .bool false] by rw [hw1]; exact Bk.newAt _ _ _ _ hgx.symm)
  have B1 := Lib.hid (show Below w.heap.size w w1 by rw [hw1]; exact (Below.refl _ _).alloc (Nat.le_refl _) _)
  have z0 : ((0 : Nat) : Int) = 0 := rfl
  unfold Cn.cells Cn.fresh at CM CB
  simp only [z0] at CM CB
  clear z0
  have FR := Lib.hid (show Cn.fresh tot bat = ⟨tot, bat, 0, 0, false⟩ from rfl)
  by_cases g : (⟨tot, bat, 0, 0, false⟩ : Cn).May n
  rotate_left
  · rw [decide_eq_false g] at CM
    obtain ⟨e1, e2, e3⟩ := NC.out.2 (by rw [hl]; exact g)
    rw [e1, e2, e3]
    clear e1 e2 e3 t hr hA hNw hNq hl hgx ht hb hc hk hff hrow hlr hlb hlc hln hZ1 hsc hw1 g NC CB
    go_enter Tryz.func11, Tryz.ntmps11
    go_upto_region 2 with (fail)
    rw [← HGX.out, ← HW1.out]
    have x0 : w1.cell? ⟨gx, 0, none⟩ = some (.int .u64 (tot : Int)) := X1.out.cell 0
    have x1 : w1.cell? ⟨gx, 1, none⟩ = some (.int .u64 (bat : Int)) := X1.out.cell 1
    have x2 : w1.cell? ⟨gx, 2, none⟩ = some (.int .u64 0) := X1.out.cell 2
    have x3 : w1.cell? ⟨gx, 3, none⟩ = some (.int .u64 0) := X1.out.cell 3
    have x4 : w1.cell? ⟨gx, 4, none⟩ = some (.bool false) := X1.out.cell 4
    go_wp2_with (first
      | (go_at_call 37; ((with_reducible refine (CM.out _).mono ?_); rintro e w2 ⟨rfl, b2⟩; have B2 := Lib.hid (B1.out.trans (b2.mono B1.out.size)); have X2 := Lib.hid (X1.out.below b2 X1.out.lt); clear b2)))
    go_ret2
    have BZ : Below w2.heap.size w2 (w2.alloc (.cells zK 48)) := (Below.refl _ _).alloc (Nat.le_refl _) _
    have MZ : Mv N (Or3 G (fun x => x = q) T) w (w2.alloc (.cells zK 48)) := ((Mv.of HNW.out B2.out : Mv N (Or3 G (fun x => x = q) T) w w2)).trans (Mv.of (F := fun x => x = q) (Nat.le_trans HNW.out ((Mv.of HNW.out B2.out : Mv N (Or3 G (fun x => x = q) T) w w2)).size) BZ) fun b hb => .inl (.inr (.inl hb))
    exact ⟨w2.heap.size, L, k, G, S, T, rfl, by omega, (QT.out.grow B2.out).grow BZ, Sub3.same _ _ _ _, MZ, ((Mv.of HNW.out B2.out : Mv N (Or3 G (fun x => x = q) T) w w2)).size, fun e => absurd e (by omega), fun _ => ⟨Bk.newAt _ _ _ _ rfl, Qs.not_new (QT.out.grow B2.out) (Nat.le_refl _)⟩⟩
  rw [decide_eq_true g] at CM
  obtain ⟨e1, e2, e3⟩ := NC.out.1 (by rw [hl]; exact g)
  replace CB := Lib.hid (CB.out (by rw [hl]; exact g))
  rw [e1, e2, e3]
  clear e1 e2 e3 t hr hA hNw hNq hl hgx ht hb hc hk hff hrow hlr hlb hlc hln hZ1 hsc hw1 g NC
  by_cases z : lc = 0
  · subst z
    rw [if_pos rfl, if_neg (by omega), if_neg (by omega)]
    go_enter Tryz.func11, Tryz.ntmps11
    go_upto_region 2 with (fail)
    rw [← HGX.out, ← HW1.out]
    have x0 : w1.cell? ⟨gx, 0, none⟩ = some (.int .u64 (tot : Int)) := X1.out.cell 0
    have x1 : w1.cell? ⟨gx, 1, none⟩ = some (.int .u64 (bat : Int)) := X1.out.cell 1
    have x2 : w1.cell? ⟨gx, 2, none⟩ = some (.int .u64 0) := X1.out.cell 2
    have x3 : w1.cell? ⟨gx, 3, none⟩ = some (.int .u64 0) := X1.out.cell 3
    have x4 : w1.cell? ⟨gx, 4, none⟩ = some (.bool false) := X1.out.cell 4
    go_wp2_with (first
      | (go_at_call 37; ((with_reducible refine (CM.out _).mono ?_); rintro e w2 ⟨rfl, b2⟩; have B2 := Lib.hid (B1.out.trans (b2.mono B1.out.size)); have X2 := Lib.hid (X1.out.below b2 X1.out.lt); clear b2))
      | (go_at_call 38; ((with_reducible refine (CL.out _ B2.out).mono ?_); rintro e w3 ⟨A1, c1, S1, rfl, r1, i1, q1, s1, m1⟩; have Q3 := Lib.hid q1; have S3 := Lib.hid (show ∀ b, S1 b → S b ∨ w.heap.size ≤ b from fun b e => (s1 b e).imp id (Nat.le_trans B2.out.size)); have M3 := Lib.hid ((Mv.of HNW.out B2.out).trans m1 fun b hb => .inl hb); have X3 := Lib.hid (show Bk w3 gx 46 #[.int .u64 (tot : Int), .int .u64 (bat : Int), .int .u64 0, .int .u64 0, .bool false] from (m1.same gx X2.out.lt NEQ.out).trans X2.out); clear r1 i1 q1 s1 m1 x0 x1 x2 x3 x4)))
    go_ret2
    have BZ : Below w3.heap.size w3 (w3.alloc (.cells zK 48)) := (Below.refl _ _).alloc (Nat.le_refl _) _
    have MZ : Mv N (Or3 G (fun x => x = q) T) w (w3.alloc (.cells zK 48)) := ((M3.out.mono fun b hb => .inr (.inl hb) : Mv N (Or3 G (fun x => x = q) T) w w3)).trans (Mv.of (F := fun x => x = q) (Nat.le_trans HNW.out ((M3.out.mono fun b hb => .inr (.inl hb) : Mv N (Or3 G (fun x => x = q) T) w w3)).size) BZ) fun b hb => .inl (.inr (.inl hb))
    exact ⟨w3.heap.size, L, k, G, S1, T, rfl, by omega, (Q3.out).grow BZ, Sub3.of S3.out, MZ, ((M3.out.mono fun b hb => .inr (.inl hb) : Mv N (Or3 G (fun x => x = q) T) w w3)).size, fun e => absurd e (by omega), fun _ => ⟨Bk.newAt _ _ _ _ rfl, Qs.not_new (Q3.out) (Nat.le_refl _)⟩⟩
  rw [if_neg z]
  have zz : ¬ (lc : Int) = 0 := by omega
  by_cases z2 : lc = 11
  rotate_left
  · rw [if_neg z2, if_neg z2, if_neg z2]
    have zz2 : ¬ (lc : Int) = 11 := by omega
    have Z0 := Lib.hid z
    clear z z2
    go_enter Tryz.func11, Tryz.ntmps11
    go_upto_region 2 with (fail)
    rw [← HGX.out, ← HW1.out]
    have x0 : w1.cell? ⟨gx, 0, none⟩ = some (.int .u64 (tot : Int)) := X1.out.cell 0
    have x1 : w1.cell? ⟨gx, 1, none⟩ = some (.int .u64 (bat : Int)) := X1.out.cell 1
    have x2 : w1.cell? ⟨gx, 2, none⟩ = some (.int .u64 0) := X1.out.cell 2
    have x3 : w1.cell? ⟨gx, 3, none⟩ = some (.int .u64 0) := X1.out.cell 3
    have x4 : w1.cell? ⟨gx, 4, none⟩ = some (.bool false) := X1.out.cell 4
    go_wp2_with (first
      | (go_at_call 37; ((with_reducible refine (CM.out _).mono ?_); rintro e w2 ⟨rfl, b2⟩; have B2 := Lib.hid (B1.out.trans (b2.mono B1.out.size)); have X2 := Lib.hid (X1.out.below b2 X1.out.lt); clear b2))
      | (go_at_call 38; ((with_reducible refine (CL.out _ B2.out).mono ?_); rintro e w3 ⟨A1, c1, S1, rfl, r1, i1, q1, s1, m1⟩; have Q3 := Lib.hid q1; have S3 := Lib.hid (show ∀ b, S1 b → S b ∨ w.heap.size ≤ b from fun b e => (s1 b e).imp id (Nat.le_trans B2.out.size)); have M3 := Lib.hid ((Mv.of HNW.out B2.out).trans m1 fun b hb => .inl hb); have X3 := Lib.hid (show Bk w3 gx 46 #[.int .u64 (tot : Int), .int .u64 (bat : Int), .int .u64 0, .int .u64 0, .bool false] from (m1.same gx X2.out.lt NEQ.out).trans X2.out); clear r1 i1 q1 s1 m1 x0 x1 x2 x3 x4)))
    go_ret2
    have BZ : Below w3.heap.size w3 (w3.alloc (.cells zK 48)) := (Below.refl _ _).alloc (Nat.le_refl _) _
    have MZ : Mv N (Or3 G (fun x => x = q) T) w (w3.alloc (.cells zK 48)) := ((M3.out.mono fun b hb => .inr (.inl hb) : Mv N (Or3 G (fun x => x = q) T) w w3)).trans (Mv.of (F := fun x => x = q) (Nat.le_trans HNW.out ((M3.out.mono fun b hb => .inr (.inl hb) : Mv N (Or3 G (fun x => x = q) T) w w3)).size) BZ) fun b hb => .inl (.inr (.inl hb))
    exact ⟨w3.heap.size, L, k, G, S1, T, rfl, by omega, (Q3.out).grow BZ, Sub3.of S3.out, MZ, ((M3.out.mono fun b hb => .inr (.inl hb) : Mv N (Or3 G (fun x => x = q) T) w w3)).size, fun e => absurd e Z0.out, fun _ => ⟨Bk.newAt _ _ _ _ rfl, Qs.not_new (Q3.out) (Nat.le_refl _)⟩⟩
  subst z2
  rw [if_pos rfl, if_pos rfl, if_pos rfl]
  clear z zz
  by_cases z : sc = 0
  rotate_left
  · have zz : ¬ (sc : Int) = 0 := by omega
    have Z0 := Lib.hid z
    clear z
    go_enter Tryz.func11, Tryz.ntmps11
    go_upto_region 2 with (fail)
    rw [← HGX.out, ← HW1.out]
    have x0 : w1.cell? ⟨gx, 0, none⟩ = some (.int .u64 (tot : Int)) := X1.out.cell 0
    have x1 : w1.cell? ⟨gx, 1, none⟩ = some (.int .u64 (bat : Int)) := X1.out.cell 1
    have x2 : w1.cell? ⟨gx, 2, none⟩ = some (.int .u64 0) := X1.out.cell 2
    have x3 : w1.cell? ⟨gx, 3, none⟩ = some (.int .u64 0) := X1.out.cell 3
    have x4 : w1.cell? ⟨gx, 4, none⟩ = some (.bool false) := X1.out.cell 4
    go_upto_region 9 with (first
      | (go_at_call 37; ((with_reducible refine (CM.out _).mono ?_); rintro e w2 ⟨rfl, b2⟩; have B2 := Lib.hid (B1.out.trans (b2.mono B1.out.size)); have X2 := Lib.hid (X1.out.below b2 X1.out.lt); clear b2))
      | (go_at_call 38; ((with_reducible refine (CL.out _ B2.out).mono ?_); rintro e w3 ⟨A1, c1, S1, rfl, r1, i1, q1, s1, m1⟩; have Q3 := Lib.hid q1; have S3 := Lib.hid (show ∀ b, S1 b → S b ∨ w.heap.size ≤ b from fun b e => (s1 b e).imp id (Nat.le_trans B2.out.size)); have M3 := Lib.hid ((Mv.of HNW.out B2.out).trans m1 fun b hb => .inl hb); have X3 := Lib.hid (show Bk w3 gx 46 #[.int .u64 (tot : Int), .int .u64 (bat : Int), .int .u64 0, .int .u64 0, .bool false] from (m1.same gx X2.out.lt NEQ.out).trans X2.out); clear r1 i1 q1 s1 m1 x0 x1 x2 x3 x4)))
    have x0 : w3.cell? ⟨gx, 0, none⟩ = some (.int .u64 (tot : Int)) := X3.out.cell 0
    have x1 : w3.cell? ⟨gx, 1, none⟩ = some (.int .u64 (bat : Int)) := X3.out.cell 1
    have x2 : w3.cell? ⟨gx, 2, none⟩ = some (.int .u64 0) := X3.out.cell 2
    have x3 : w3.cell? ⟨gx, 3, none⟩ = some (.int .u64 0) := X3.out.cell 3
    have x4 : w3.cell? ⟨gx, 4, none⟩ = some (.bool false) := X3.out.cell 4
    go_upto_region 11 with (first
      | (go_at_call 39; ((with_reducible refine (CB.out _ (HRM.out _ _ M3.out (fun b hb => by rw [hb]; exact HNQ.out))).mono ?_); rintro e w4 ⟨A4, c4, rfl, r4, i4, b4⟩; have R4 := Lib.hid r4; have I4 := Lib.hid (show ∀ a, 0 < lr → A4 = some a → w.heap.size ≤ a.block from fun a h0 ha => Nat.le_trans M3.out.size (i4 a h0 ha)); have Q4 := Lib.hid (Q3.out.grow b4); have M4 := Lib.hid (M3.out.trans (Mv.of (F := fun b => b = q) (Nat.le_trans HNW.out M3.out.size) b4) fun b hb => .inl hb); have X4 := Lib.hid (X3.out.below b4 X3.out.lt); clear r4 i4 b4))
      | (go_at_call 40; ((with_reducible refine (CS.out _ _ _ _ Q4.out M4.out.size R4.out I4.out).mono ?_); rintro e w5 ⟨rfl, L', k', G', S', T', p1, p2, p3, p4⟩; have P1 := Lib.hid p1; have Q5 := Lib.hid p2; have S5 := Lib.hid (show Sub3 G S T G' S' T' w.heap.size from ⟨fun b e => (p3.1 b e).imp id (Nat.le_trans M4.out.size), fun b e => (p3.2.1 b e).elim (fun e => S3.out b e) (fun e => .inr (Nat.le_trans M4.out.size e)), fun b e => (p3.2.2 b e).imp id (Nat.le_trans M4.out.size)⟩); have M5 := Lib.hid (show Mv N (Or3 G (fun x => x = q) T) w w5 from (M4.out.mono fun b hb => .inr (.inl hb)).trans p4 fun b hb => .inl hb); have X5 := Lib.hid (show Bk w5 gx 46 #[.int .u64 (tot : Int), .int .u64 (bat : Int), .int .u64 0, .int .u64 0, .bool false] from (p4.same gx X4.out.lt fun e => by have h9 := (LOW.out gx e).2; rw [HGX.out] at h9; omega).trans X4.out); clear p1 p2 p3 p4 x0 x1 x2 x3 x4)))
    go_wp2
    go_ret2
    have BZ : Below w5.heap.size w5 (w5.alloc (.cells zK 48)) := (Below.refl _ _).alloc (Nat.le_refl _) _
    have MZ : Mv N (Or3 G (fun x => x = q) T) w (w5.alloc (.cells zK 48)) := (M5.out).trans (Mv.of (F := fun x => x = q) (Nat.le_trans HNW.out (M5.out).size) BZ) fun b hb => .inl (.inr (.inl hb))
    exact ⟨w5.heap.size, L', k', G', S', T', rfl, P1.out, (Q5.out).grow BZ, S5.out, MZ, (M5.out).size, fun e => absurd e Z0.out, fun _ => ⟨Bk.newAt _ _ _ _ rfl, Qs.not_new (Q5.out) (Nat.le_refl _)⟩⟩
  subst z
  go_enter Tryz.func11, Tryz.ntmps11
  go_upto_region 2 with (fail)
  rw [← HGX.out, ← HW1.out]
  have x0 : w1.cell? ⟨gx, 0, none⟩ = some (.int .u64 (tot : Int)) := X1.out.cell 0
  have x1 : w1.cell? ⟨gx, 1, none⟩ = some (.int .u64 (bat : Int)) := X1.out.cell 1
  have x2 : w1.cell? ⟨gx, 2, none⟩ = some (.int .u64 0) := X1.out.cell 2
  have x3 : w1.cell? ⟨gx, 3, none⟩ = some (.int .u64 0) := X1.out.cell 3
  have x4 : w1.cell? ⟨gx, 4, none⟩ = some (.bool false) := X1.out.cell 4
  go_upto_region 9 with (first
    | (go_at_call 37; ((with_reducible refine (CM.out _).mono ?_); rintro e w2 ⟨rfl, b2⟩; have B2 := Lib.hid (B1.out.trans (b2.mono B1.out.size)); have X2 := Lib.hid (X1.out.below b2 X1.out.lt); clear b2))
    | (go_at_call 38; ((with_reducible refine (CL.out _ B2.out).mono ?_); rintro e w3 ⟨A1, c1, S1, rfl, r1, i1, q1, s1, m1⟩; have Q3 := Lib.hid q1; have S3 := Lib.hid (show ∀ b, S1 b → S b ∨ w.heap.size ≤ b from fun b e => (s1 b e).imp id (Nat.le_trans B2.out.size)); have M3 := Lib.hid ((Mv.of HNW.out B2.out).trans m1 fun b hb => .inl hb); have X3 := Lib.hid (show Bk w3 gx 46 #[.int .u64 (tot : Int), .int .u64 (bat : Int), .int .u64 0, .int .u64 0, .bool false] from (m1.same gx X2.out.lt NEQ.out).trans X2.out); clear r1 i1 q1 s1 m1 x0 x1 x2 x3 x4)))
  have x0 : w3.cell? ⟨gx, 0, none⟩ = some (.int .u64 (tot : Int)) := X3.out.cell 0
  have x1 : w3.cell? ⟨gx, 1, none⟩ = some (.int .u64 (bat : Int)) := X3.out.cell 1
  have x2 : w3.cell? ⟨gx, 2, none⟩ = some (.int .u64 0) := X3.out.cell 2
  have x3 : w3.cell? ⟨gx, 3, none⟩ = some (.int .u64 0) := X3.out.cell 3
  have x4 : w3.cell? ⟨gx, 4, none⟩ = some (.bool false) := X3.out.cell 4
  go_upto_region 11 with (first
    | (go_at_call 39; ((with_reducible refine (CB.out _ (HRM.out _ _ M3.out (fun b hb => by rw [hb]; exact HNQ.out))).mono ?_); rintro e w4 ⟨A4, c4, rfl, r4, i4, b4⟩; have R4 := Lib.hid r4; have I4 := Lib.hid (show ∀ a, 0 < lr → A4 = some a → w.heap.size ≤ a.block from fun a h0 ha => Nat.le_trans M3.out.size (i4 a h0 ha)); have Q4 := Lib.hid (Q3.out.grow b4); have M4 := Lib.hid (M3.out.trans (Mv.of (F := fun b => b = q) (Nat.le_trans HNW.out M3.out.size) b4) fun b hb => .inl hb); have X4 := Lib.hid (X3.out.below b4 X3.out.lt); clear r4 i4 b4))
    | (go_at_call 40; ((with_reducible refine (CS.out _ _ _ _ Q4.out M4.out.size R4.out I4.out).mono ?_); rintro e w5 ⟨rfl, L', k', G', S', T', p1, p2, p3, p4⟩; have P1 := Lib.hid p1; have Q5 := Lib.hid p2; have S5 := Lib.hid (show Sub3 G S T G' S' T' w.heap.size from ⟨fun b e => (p3.1 b e).imp id (Nat.le_trans M4.out.size), fun b e => (p3.2.1 b e).elim (fun e => S3.out b e) (fun e => .inr (Nat.le_trans M4.out.size e)), fun b e => (p3.2.2 b e).imp id (Nat.le_trans M4.out.size)⟩); have M5 := Lib.hid (show Mv N (Or3 G (fun x => x = q) T) w w5 from (M4.out.mono fun b hb => .inr (.inl hb)).trans p4 fun b hb => .inl hb); have X5 := Lib.hid (show Bk w5 gx 46 #[.int .u64 (tot : Int), .int .u64 (bat : Int), .int .u64 0, .int .u64 0, .bool false] from (p4.same gx X4.out.lt fun e => by have h9 := (LOW.out gx e).2; rw [HGX.out] at h9; omega).trans X4.out); clear p1 p2 p3 p4 x0 x1 x2 x3 x4)))
  have x0 : w5.cell? ⟨gx, 0, none⟩ = some (.int .u64 (tot : Int)) := X5.out.cell 0
  have x1 : w5.cell? ⟨gx, 1, none⟩ = some (.int .u64 (bat : Int)) := X5.out.cell 1
  have x2 : w5.cell? ⟨gx, 2, none⟩ = some (.int .u64 0) := X5.out.cell 2
  have x3 : w5.cell? ⟨gx, 3, none⟩ = some (.int .u64 0) := X5.out.cell 3
  have x4 : w5.cell? ⟨gx, 4, none⟩ = some (.bool false) := X5.out.cell 4
  go_wp2
  go_ret2
  have hR5 : Rd w5 A hd.length c hd := by have h9 := HRM.out _ _ M5.out (fun b hb => (LOW.out b hb).1); rw [HL.out]; exact h9
  obtain ⟨K, hQ, hK⟩ := Qc.made (kc := w5.heap.size) (x := ⟨tot, bat, 0, 0, false⟩) Q5.out rfl hR5 (fun a h0 ha => .inl (HA.out a (by rw [← HL.out]; exact h0) ha))
  rw [HL.out] at hQ
  have BZ : Below w5.heap.size w5 (w5.alloc (.cells (rcA ⟨tot, bat, 0, 0, false⟩ A n c q) 48)) := (Below.refl _ _).alloc (Nat.le_refl _) _
  exact ⟨w5.heap.size, L', k', G', S', T', rfl, P1.out, hQ.qs, S5.out, M5.out.trans (Mv.of (F := fun x => x = q) (Nat.le_trans HNW.out M5.out.size) BZ) fun b hb => .inl (.inr (.inl hb)), M5.out.size, fun _ => ⟨K, hQ, fun b hb => (hK b hb).imp id (Nat.le_trans M5.out.size)⟩, fun e => absurd rfl e⟩
end Go.Proofs.YtnoflgkjdibblaaGreatDoor.S21

/-
  What the calls of package reserve are to do, as one structure, over slots and a disk. No statement is proved here.
-/
namespace Go.Proofs.YtnoflgkjdibblaaGreatDoor.S21
set_option linter.unusedSimpArgs false
set_option linter.unusedVariables false
set_option maxRecDepth 4096
open Go.RowKit S19 S20

/-- The calls of package reserve, over slots and a disk. -/
structure RvC (M : DC) (C : SlC M) where
  ok : World → Prop
  bel : ∀ {w w' : World}, ok w → Below w.heap.size w w' → ok w'
  okC : ∀ {w : World}, ok w → C.ok w
  Is : Nat → World → Nat → Nat → Cn → List UInt8 → (Nat → Prop) → Prop
  lt : ∀ {N : Nat} {w : World} {c s : Nat} {x : Cn} {h : List UInt8} {R : Nat → Prop}, Is N w c s x h R → ∀ b, R b → N ≤ b ∧ b < w.heap.size
  keep : ∀ {N : Nat} {w w' : World} {c s : Nat} {x : Cn} {h : List UInt8} {R : Nat → Prop}, Is N w c s x h R → w.heap.size ≤ w'.heap.size → (∀ b, (b < N ∨ R b) → b < w.heap.size → w'.heap[b]? = w.heap[b]?) → Is N w' c s x h R
  read : ∀ (w : World) (A : Option Addr) (n c : Nat) (b : List UInt8), ok w → Rd w A n c b → n ≤ 100000 → Calls Tryz.prog 46 #[.slice A n c] w fun e w' =>
    ∃ A' c', e = .returned (.tuple #[.agg (Cn.readX b).cells, .slice A' (Cn.readH b).length c', .int .i64 (Cn.readC b : Int)]) ∧ Rd w' A' (Cn.readH b).length c' (Cn.readH b) ∧ Below w.heap.size w w'
  new : ∀ (N : Nat) (w : World) (s g : Nat) (D : Dk) (Z : Sl) (F S : Nat → Prop) (A : Option Addr) (n c : Nat) (h : List UInt8) (tot bat : Nat), (∀ X, Below N w X → ok X) → Lz M C N w g s D Z F S → Rd w A n c h → (∀ a, 0 < n → A = some a → ¬ Or2 F S a.block) → D.cnt < 1099511600000 → tot < 18446744073709551616 → bat < 18446744073709551616 → n ≤ 100000 →
    Calls Tryz.prog 10 #[.pointer (some ⟨s, 0, none⟩), .slice A n c, .int .u64 (tot : Int), .int .u64 (bat : Int)] w fun e w' =>
    ∃ p F' S', e = .returned (.tuple #[.pointer p, .int .i64 (Cn.newC tot bat h Z D : Int)]) ∧ (Cn.newC tot bat h Z D ≠ 0 → p = none) ∧ (Cn.newC tot bat h Z D = 0 → ∃ cc R, p = some ⟨cc, 0, none⟩ ∧ Is N w' cc s (Cn.fresh tot bat) h R ∧ (∀ b, R b → w.heap.size ≤ b) ∧ (∀ b, R b → ¬ Or2 F' S' b)) ∧
      Lz M C N w' g s (Cn.newD tot bat h Z D) (Cn.newZ tot bat h Z D) F' S' ∧ (∀ b, Or2 F' S' b → Or2 F S b ∨ w.heap.size ≤ b) ∧ Mv N (Or2 F S) w w'
  opn : ∀ (N : Nat) (w : World) (s g : Nat) (D : Dk) (Z : Sl) (F S : Nat → Prop), ok w → Lz M C N w g s D Z F S → Calls Tryz.prog 21 #[.pointer (some ⟨s, 0, none⟩)] w fun e w' =>
    ∃ p F' S', e = .returned (.tuple #[.pointer p, .int .i64 (Cn.openC Z D : Int)]) ∧ (Cn.openC Z D ≠ 0 → p = none) ∧ (Cn.openC Z D = 0 → ∃ cc R, p = some ⟨cc, 0, none⟩ ∧ Is N w' cc s (Cn.openX Z D) (Cn.openH Z D) R ∧ (∀ b, R b → w.heap.size ≤ b) ∧ (∀ b, R b → ¬ Or2 F' S' b)) ∧
      Lz M C N w' g s D (Z.load D) F' S' ∧ (∀ b, Or2 F' S' b → Or2 F S b ∨ w.heap.size ≤ b) ∧ Mv N (Or2 F S) w w'
  take : ∀ (N : Nat) (w : World) (cc s g : Nat) (x : Cn) (h : List UInt8) (D : Dk) (Z : Sl) (F S R : Nat → Prop), ok w → Lz M C N w g s D Z F S → Is N w cc s x h R → (∀ b, R b → ¬ Or2 F S b) → x.Ok h.length → D.cnt < 1099511600000 → Calls Tryz.prog 13 #[.pointer (some ⟨cc, 0, none⟩)] w fun e w' =>
    ∃ F' S' R', e = .returned (.tuple #[.int .u64 (x.takeN h Z D : Int), .int .i64 (x.takeC h Z D : Int)]) ∧ Lz M C N w' g s (x.takeD h Z D) (x.takeZ h Z D) F' S' ∧ Is N w' cc s (x.take h Z D) h R' ∧ (∀ b, R' b → ¬ Or2 F' S' b) ∧ (∀ b, Or3 F' S' R' b → Or3 F S R b ∨ w.heap.size ≤ b) ∧ Mv N (Or3 F S R) w w'
  head : ∀ (N : Nat) (w : World) (cc s : Nat) (x : Cn) (h : List UInt8) (R : Nat → Prop), ok w → Is N w cc s x h R → Calls Tryz.prog 27 #[.pointer (some ⟨cc, 0, none⟩)] w fun e w' =>
    ∃ A c, e = .returned (.slice A h.length c) ∧ w'.ownsRow w.heap.size 5 1 (.slice A h.length c) h.length (bv h) ∧ Below w.heap.size w w'
  state : ∀ (N : Nat) (w : World) (cc s : Nat) (x : Cn) (h : List UInt8) (R : Nat → Prop), ok w → Is N w cc s x h R → Calls Tryz.prog 25 #[.pointer (some ⟨cc, 0, none⟩)] w fun e w' => e = .returned (.agg x.cells) ∧ Below w.heap.size w w'
/-- And Retire, which one seat alone reaches. -/
structure RvT (M : DC) (C : SlC M) extends RvC M C where
  ret : ∀ (N : Nat) (w : World) (cc s g : Nat) (x : Cn) (h : List UInt8) (D : Dk) (Z : Sl) (F S R : Nat → Prop), ok w → Lz M C N w g s D Z F S → Is N w cc s x h R → (∀ b, R b → ¬ Or2 F S b) → x.Ok h.length → D.cnt < 1099511600000 → Calls Tryz.prog 15 #[.pointer (some ⟨cc, 0, none⟩)] w fun e w' =>
    ∃ F' S' R', e = .returned (.int .i64 (x.retC h Z D : Int)) ∧ Lz M C N w' g s (x.retD h Z D) (x.retZ h Z D) F' S' ∧ Is N w' cc s (x.ret h Z D) h R' ∧ (∀ b, R' b → ¬ Or2 F' S' b) ∧ (∀ b, Or3 F' S' R' b → Or3 F S R b ∨ w.heap.size ≤ b) ∧ Mv N (Or3 F S R) w w'
end Go.Proofs.YtnoflgkjdibblaaGreatDoor.S21

/-
  Two counters compared; two counters as bytes. No statement is proved here.
-/
namespace Go.Proofs.YtnoflgkjdibblaaGreatDoor.S21
set_option linter.unusedSimpArgs false
set_option linter.unusedVariables false
set_option maxRecDepth 4096
open Go.RowKit S19 S20

instance : DecidableEq Cn := fun x y => by
  obtain ⟨a, b, c, d, e⟩ := x
  obtain ⟨a', b', c', d', e'⟩ := y
  exact decidable_of_iff (a = a' ∧ b = b' ∧ c = c' ∧ d = d' ∧ e = e') (by simp)
theorem part_int {T : TypeId} {k : IntKind} (hu : Tryz.prog.underlying T = some (.int k)) (cs : Array Value) (j : Nat) (n : Int) (h : cs[j]? = some (.int k n)) (W : World) : (part T cs j).run Tryz.prog W = .ok (.int k n) W := by
  simp [part, isAgg, run_underlying hu, h]
theorem eq_step (T : TypeId) (k : IntKind) (hu : Tryz.prog.underlying T = some (.int k)) (cs ds : Array Value) (j : Nat) (m n : Int) (fs : List Field) (f : Field) (h1 : f.type = T) (h2 : f.offset = j) (h3 : f.name ≠ "_") (h4 : cs[j]? = some (.int k m)) (h5 : ds[j]? = some (.int k n)) (W : World) :
    (Op.eqFields (9998 + 1) cs ds (f :: fs)).run Tryz.prog W = if (m == n) = true then (Op.eqFields (9998 + 1) cs ds fs).run Tryz.prog W else .ok false W := by
  subst h1 h2
  rw [Op.eqFields, if_pos h3]
  simp only [Sem.run_bind, part_int hu cs _ m h4 W, part_int hu ds _ n h5 W, Result.andThen_ok, run_equalIn_int W 9998 f.type k k m n hu]
  cases m == n <;> simp
theorem part_bool {T : TypeId} (hu : Tryz.prog.underlying T = some .bool) (cs : Array Value) (j : Nat) (n : Bool) (h : cs[j]? = some (.bool n)) (W : World) : (part T cs j).run Tryz.prog W = .ok (.bool n) W := by
  simp [part, isAgg, run_underlying hu, h]
theorem eq_stepB (T : TypeId) (hu : Tryz.prog.underlying T = some .bool) (cs ds : Array Value) (j : Nat) (m n : Bool) (fs : List Field) (f : Field) (h1 : f.type = T) (h2 : f.offset = j) (h3 : f.name ≠ "_") (h4 : cs[j]? = some (.bool m)) (h5 : ds[j]? = some (.bool n)) (W : World) :
    (Op.eqFields (9998 + 1) cs ds (f :: fs)).run Tryz.prog W = if (m == n) = true then (Op.eqFields (9998 + 1) cs ds fs).run Tryz.prog W else .ok false W := by
  subst h1 h2
  rw [Op.eqFields, if_pos h3]
  simp only [Sem.run_bind, part_bool hu cs _ m h4 W, part_bool hu ds _ n h5 W, Result.andThen_ok, run_equalIn_bool W 9998 f.type m n hu]
  cases m == n <;> simp
set_option maxRecDepth 10000 in
/-- '==' of two counters. -/
theorem run_eql_Cn (x y : Cn) (W : World) : (binOp .eql 46 (.agg x.cells) (.agg y.cells)).run Tryz.prog W = .ok (.bool (decide (x = y))) W := by
  obtain ⟨a, b, c, d, f⟩ := x
  obtain ⟨a', b', c', d', f'⟩ := y
  unfold Cn.cells
  rw [run_eql_struct W, show (10000 : Nat) = 9998 + 1 + 1 from rfl, run_equalIn_agg W (9998 + 1) 46 _ _ (by kernel_rfl) (by kernel_rfl)]
  simp only [Program.fieldsOf, Tryz.underlying46]
  rw [eq_step 22 .u64 Tryz.underlying22 _ _ 0 a a' _ _ rfl rfl (by decide) rfl rfl, eq_step 22 .u64 Tryz.underlying22 _ _ 1 b b' _ _ rfl rfl (by decide) rfl rfl, eq_step 22 .u64 Tryz.underlying22 _ _ 2 c c' _ _ rfl rfl (by decide) rfl rfl,
    eq_step 22 .u64 Tryz.underlying22 _ _ 3 d d' _ _ rfl rfl (by decide) rfl rfl, eq_stepB 4 Tryz.underlying4 _ _ 4 f f' _ _ rfl rfl (by decide) rfl rfl]
  have e : decide ((⟨a, b, c, d, f⟩ : Cn) = ⟨a', b', c', d', f'⟩) = ((a : Int) == a' && (b : Int) == b' && (c : Int) == c' && (d : Int) == d' && f == f') := by
    rw [Bool.eq_iff_iff]
    simp only [decide_eq_true_eq, Cn.mk.injEq, Bool.and_eq_true, beq_iff_eq, and_assoc]
    constructor
    · rintro ⟨e1, e2, e3, e4, e5⟩; exact ⟨by omega, by omega, by omega, by omega, e5⟩
    · rintro ⟨e1, e2, e3, e4, e5⟩; exact ⟨by omega, by omega, by omega, by omega, e5⟩
  rw [e]
  cases (a : Int) == a' <;> cases (b : Int) == b' <;> cases (c : Int) == c' <;> cases (d : Int) == d' <;> cases f == f' <;> rfl
end Go.Proofs.YtnoflgkjdibblaaGreatDoor.S21

/-
  What the statements' first question of layer 21 goes through, in plain words: a disk at rest, saved upon again and again. No statement is proved here.
-/
namespace Go.Proofs.YtnoflgkjdibblaaGreatDoor.S21
set_option linter.unusedSimpArgs false
set_option linter.unusedVariables false
set_option maxRecDepth 8192
open S19 S20

/-- Slots and a disk at rest, at which the other half is not newer. -/
structure Fine (Z : Sl) (D : Dk) : Prop where
  calm : S20.Calm D
  pend : D.pend = []
  ok : Z.Ok D
  low : (whole (Z.area D (1 - Z.goes)) Z.n).1 ≤ Z.num
theorem Fine.new {k n : Nat} (h1 : 1 ≤ n) (h8 : n ≤ 8) (hk : 2 * n ≤ k) : Fine (Sl.new 0 n) (Dk.new k) := by
  refine ⟨S20.Calm.new k, rfl, new_ok (first := 0) (n := n) (decide_eq_true (by simp [Dk.new]; omega)), ?_⟩
  rw [area_new (k := k) (Z := Sl.new 0 n) (by show 0 + 2 * n ≤ k; omega) (by omega), whole_zero]
  exact Nat.zero_le _
theorem Fine.save {Z : Sl} {D : Dk} (f : Fine Z D) {b : List UInt8} (hb : b.length ≤ room Z.n) (hn : Z.num + 1 < 18446744073709551616) :
    Z.saveC D b = 0 ∧ Z.save D b = { Z with at_ := (Z.goes : Int), num := Z.num + 1, b := b } ∧ Fine (Z.save D b) (Z.saveD D b) ∧ (Z.saveD D b).cnt = D.cnt + Z.n + 1 ∧
      ∀ Y : Sl, Y.first = Z.first ∧ Y.n = Z.n → Y.loadC (Z.saveD D b) = 0 ∧ Y.load (Z.saveD D b) = Z.save D b ∧ Y.loadB (Z.saveD D b) = b := by
  obtain ⟨s1, s2, s3, s4, s5, s6, s7⟩ := save_calm f.calm f.pend f.ok hb
  have hx : Z.next = Z.num + 1 := Nat.mod_eq_of_lt hn
  rw [hx] at s2 s6
  have hg : Z.goes = 0 ∨ Z.goes = 1 := by unfold Sl.goes; split <;> simp
  refine ⟨s1, s2, ⟨s3, s4, save_ok f.ok b, ?_⟩, s5, fun Y hy => ?_⟩
  · have ho : 1 - (Z.save D b).goes = Z.goes := by
      rw [s2]
      rcases hg with e | e
      · rw [e]; simp [Sl.goes]
      · rw [e]; simp [Sl.goes]
    rw [ho, s2]
    show (whole (Z.area (Z.saveD D b) Z.goes) Z.n).1 ≤ Z.num + 1
    rw [s6, whole_rec (by omega) hn f.ok.one f.ok.most hb]
    exact Nat.le_refl _
  · obtain ⟨h5, h6⟩ := load_saved f.calm f.pend f.ok hb hn f.low Y hy
    refine ⟨h5, by rw [h6, s2], by rw [Sl.loadB, if_pos h5, h6]⟩
theorem Fine.row_fits {Z : Sl} (h8 : Z.n = 8) (x : Cn) {h : List UInt8} (hl : h.length ≤ 200) : (x.row h).length ≤ room Z.n := by
  rw [Cn.row_len, h8, show room (8 : Nat) = 484 from by decide]
  omega
def one04 : List UInt8 := [104]
theorem Fine.next {Z : Sl} {D : Dk} (f : Fine Z D) {b : List UInt8} (hb : b.length ≤ room Z.n) (hn : Z.num + 1 < 18446744073709551616) :
    ∃ (Z' : Sl) (D' : Dk), Z.save D b = Z' ∧ Z.saveD D b = D' ∧ Z.saveC D b = 0 ∧ Fine Z' D' ∧ Z'.n = Z.n ∧ Z'.num = Z.num + 1 ∧ Z'.first = Z.first ∧ D'.cnt = D.cnt + Z.n + 1 ∧
      ∀ Y : Sl, Y.first = Z.first ∧ Y.n = Z.n → Y.loadC D' = 0 ∧ Y.load D' = Z' ∧ Y.loadB D' = b := by
  obtain ⟨h1, h2, h3, h4, h5⟩ := f.save hb hn
  exact ⟨_, _, rfl, rfl, h1, h3, by rw [h2], by rw [h2], by rw [h2], h4, h5⟩
def aZ0 : Sl := Sl.new 0 8
def aD0 : Dk := Dk.new 16
theorem aw21_facts : ∃ (Z1 : Sl) (D1 : Dk) (Z2 : Sl) (D2 : Dk) (Z3 : Sl) (D3 : Dk), (Cn.newC 10 4 one04 aZ0 aD0 = 0 ∧ Cn.newZ 10 4 one04 aZ0 aD0 = Z1 ∧ Cn.newD 10 4 one04 aZ0 aD0 = D1) ∧
    (Cn.takeC ⟨10, 4, 0, 0, false⟩ one04 Z1 D1 = 0 ∧ Cn.takeN ⟨10, 4, 0, 0, false⟩ one04 Z1 D1 = 0 ∧ Cn.takeZ ⟨10, 4, 0, 0, false⟩ one04 Z1 D1 = Z2 ∧ Cn.takeD ⟨10, 4, 0, 0, false⟩ one04 Z1 D1 = D2 ∧ Cn.take ⟨10, 4, 0, 0, false⟩ one04 Z1 D1 = ⟨10, 4, 4, 1, false⟩) ∧
    (Cn.openC Z2 D2 = 0 ∧ Cn.openX Z2 D2 = ⟨10, 4, 4, 4, false⟩ ∧ Cn.openH Z2 D2 = one04 ∧ Z2.load D2 = Z2) ∧
    (Cn.takeC ⟨10, 4, 4, 4, false⟩ one04 Z2 D2 = 0 ∧ Cn.takeN ⟨10, 4, 4, 4, false⟩ one04 Z2 D2 = 4 ∧ Cn.takeZ ⟨10, 4, 4, 4, false⟩ one04 Z2 D2 = Z3 ∧ Cn.takeD ⟨10, 4, 4, 4, false⟩ one04 Z2 D2 = D3 ∧ Cn.take ⟨10, 4, 4, 4, false⟩ one04 Z2 D2 = ⟨10, 4, 8, 5, false⟩) ∧
    Cn.newC 10 4 [] Z3 D3 = 10 ∧ D1.cnt ≤ 100 ∧ D2.cnt ≤ 100 ∧ D3.cnt ≤ 100 := by
  have f0 : Fine aZ0 aD0 := Fine.new (by omega) (by omega) (by omega)
  obtain ⟨l1, l2⟩ := load_new (k := 16) (Z := aZ0) (by show 0 + 2 * 8 ≤ 16; omega) rfl rfl rfl
  have l1' : aZ0.loadC aD0 = 11 := l1
  have l2' : aZ0.load aD0 = aZ0 := l2
  have z1 : aZ0.n = 8 := rfl
  have z2 : aZ0.num = 0 := rfl
  have z3 : aD0.cnt = 0 := rfl
  clear l1 l2
  obtain ⟨Z1, D1, p1, p2, p3, f1, a1, b1, d1, c1, o1⟩ := f0.next (b := Cn.row ⟨10, 4, 0, 0, false⟩ one04) (Fine.row_fits z1 _ (by decide)) (by rw [z2]; omega)
  obtain ⟨Z2, D2, q1, q2, q3, f2, a2, b2, d2, c2, o2⟩ := f1.next (b := Cn.row ⟨10, 4, 4, 0, false⟩ one04) (Fine.row_fits (a1.trans z1) _ (by decide)) (by rw [b1, z2]; omega)
  obtain ⟨Z3, D3, r1, r2, r3, f3, a3, b3, d3, c3, o3⟩ := f2.next (b := Cn.row ⟨10, 4, 8, 4, false⟩ one04) (Fine.row_fits (a2.trans (a1.trans z1)) _ (by decide)) (by rw [b2, b1, z2]; omega)
  obtain ⟨u1, u2, u3⟩ := o2 Z2 ⟨d2, a2⟩
  obtain ⟨v1, v2, v3⟩ := o3 Z3 ⟨d3, a3⟩
  clear o1 o2 o3 f0 f1 f2 f3
  have fx : Cn.Fit ⟨10, 4, 4, 0, false⟩ := ⟨by decide, by decide, by decide, by decide⟩
  have mx : Cn.May ⟨10, 4, 4, 0, false⟩ one04.length := by decide
  have m0 : (Cn.fresh 10 4).May one04.length := by decide
  have m1 : (Cn.fresh 10 4).May ([] : List UInt8).length := by decide
  refine ⟨Z1, D1, Z2, D2, Z3, D3, ⟨?_, ?_, ?_⟩, ⟨?_, ?_, ?_, ?_, ?_⟩, ⟨?_, ?_, ?_, u2⟩, ⟨?_, ?_, ?_, ?_, ?_⟩, ?_, ?_, ?_, ?_⟩
  · rw [Cn.newC, if_pos m0, if_neg (by rw [l1']; omega), if_pos l1', l2']; exact p3
  · rw [Cn.newZ, if_pos m0, if_pos l1', l2']; exact p1
  · rw [Cn.newD, if_pos m0, if_pos l1', l2']; exact p2
  · simp [Cn.takeC, Cn.more, q3]
  · simp [Cn.takeN, Cn.takeC, Cn.more, q3]
  · simp [Cn.takeZ, Cn.must, Cn.more, q1]
  · simp [Cn.takeD, Cn.must, Cn.more, q2]
  · simp [Cn.take, Cn.takeC, Cn.must, Cn.more, q3, Cn.next]
  · rw [Cn.openC, if_pos u1, u3]; exact Cn.read_row _ one04 fx mx
  · rw [Cn.openX, u3, Cn.ofB_row _ one04 fx]
  · rw [Cn.openH, u3, Cn.row_f]
  · simp [Cn.takeC, Cn.more, r3]
  · simp [Cn.takeN, Cn.takeC, Cn.more, r3]
  · simp [Cn.takeZ, Cn.must, Cn.more, r1]
  · simp [Cn.takeD, Cn.must, Cn.more, r2]
  · simp [Cn.take, Cn.takeC, Cn.must, Cn.more, r3, Cn.next]
  · rw [Cn.newC, if_pos m1, if_pos v1]
  · rw [c1, z1, z3]; omega
  · rw [c2, c1, a1, z1, z3]; omega
  · rw [c3, c2, c1, a2, a1, z1, z3]; omega
end Go.Proofs.YtnoflgkjdibblaaGreatDoor.S21

/-
  The statements' first question of layer 21, over the contracts. No statement is proved here. (Written by genrva.py.)
-/
namespace Go.Proofs.YtnoflgkjdibblaaGreatDoor.S21
set_option linter.unusedSimpArgs false
set_option linter.unusedVariables false
set_option maxRecDepth 8192
open Go.RowKit S19 S20

set_option maxHeartbeats 8000000 in
theorem awake21_any (M : DC) (C : SlC M) (K : RvC M C) (w : World) (hk : K.ok w) : Calls Tryz.prog 5 #[] w fun e w' => e = .returned (.bool true) ∧ Below w.heap.size w w' := by
  obtain ⟨N, hN⟩ : ∃ N, w.heap.size = N := ⟨_, rfl⟩
  have HN := Lib.hid hN
  have OKN := Lib.hid (show ∀ X, Below N w X → K.ok X from fun X hX => K.bel hk (by rw [hN]; exact hX))
  have BN := Lib.hid (show ∀ X Y, Below N w X → Below X.heap.size X Y → Below N w Y from fun X Y h h' => h.trans (h'.mono (by have := h.size; omega)))
  obtain ⟨Z1, D1, Z2, D2, Z3, D3, ⟨n1, n2, n3⟩, ⟨t1, t2, t3, t4, t5⟩, ⟨o1, o2, o3, o4⟩, ⟨s1, s2, s3, s4, s5⟩, e1, d1, d2, d3⟩ := aw21_facts
  have C1 := Lib.hid (show Calls Tryz.prog 6 #[.int .i64 16] w fun e w' => ∃ g F, e = .returned (.tuple #[.pointer (some ⟨g, 0, none⟩), .int .i64 0]) ∧ M.Is N w' g aD0 F ∧ Below N w w' from
    (M.new N w 16 (C.okM (K.okC hk)) (by omega) (by omega) (by omega)).mono fun e w' ⟨g, F, h1, h2, h3, h4⟩ => ⟨g, F, h1, h2, by rw [← hN]; exact h4⟩)
  have C2 := Lib.hid (show ∀ X g F, Below N w X → M.Is N X g aD0 F → Calls Tryz.prog 8 #[.pointer (some ⟨g, 0, none⟩), .int .i64 0, .int .i64 8] X fun e w' => ∃ s F' S', e = .returned (.tuple #[.pointer (some ⟨s, 0, none⟩), .int .i64 0]) ∧ Lz M C N w' g s aD0 aZ0 F' S' ∧ Below N X w' from
    fun X g F hX hI => (C.new N X g aD0 F 0 8 (K.okC (OKN.out X hX)) hI rfl).mono fun e w' ⟨s, S, F', h1, h2, h3, h4, h5, h6, h7⟩ => ⟨s, F', S, h1, ⟨h3, h2, h6, new_ok (first := 0) (n := 8) rfl⟩, h7.bel⟩)
  have C3 := Lib.hid (show ∀ X g s F S, Below N w X → Lz M C N X g s aD0 aZ0 F S → Calls Tryz.prog 10 #[.pointer (some ⟨s, 0, none⟩), .slice (some ⟨X.heap.size, 0, none⟩) 1 1, .int .u64 10, .int .u64 4] (X.alloc (.cells #[.int .u8 104] 5 (1, 2))) fun e w' =>
      ∃ cc R F' S', e = .returned (.tuple #[.pointer (some ⟨cc, 0, none⟩), .int .i64 0]) ∧ K.Is N w' cc s ⟨10, 4, 0, 0, false⟩ one04 R ∧ (∀ b, R b → ¬ Or2 F' S' b) ∧ Lz M C N w' g s D1 Z1 F' S' ∧ Below N X w' from fun X g s F S hX hI => by
    have hG : Below X.heap.size X (X.alloc (.cells #[.int .u8 104] 5 (1, 2))) := (Below.refl _ _).alloc (Nat.le_refl _) _
    have hr : Rd (X.alloc (.cells #[.int .u8 104] 5 (1, 2))) (some ⟨X.heap.size, 0, none⟩) 1 1 one04 := rd_mark X _ one04 _ rfl (by decide)
    refine (K.new N _ s g aD0 aZ0 F S _ 1 1 one04 10 4 (fun Y hY => OKN.out Y ((BN.out _ _ hX hG).trans hY)) (hI.grow hG) hr (fun a _ e hO => by injection e with e; rw [← e] at hO; have := (hI.lt _ hO).2; exact absurd this (Nat.lt_irrefl _)) (by show 0 < _; omega) (by omega) (by omega) (by omega)).mono ?_
    rintro e w' ⟨p, F', S', h1, h2, h3, h4, h5, h6⟩
    obtain ⟨cc, R, rfl, i1, i2, i3⟩ := h3 n1
    rw [n2, n3] at h4
    rw [n1] at h1
    exact ⟨cc, R, F', S', h1, i1, i3, h4, (hG.mono (by have := hX.size; omega)).trans h6.bel⟩)
  have C4 := Lib.hid (show ∀ X cc g s F S R, Below N w X → Lz M C N X g s D1 Z1 F S → K.Is N X cc s ⟨10, 4, 0, 0, false⟩ one04 R → (∀ b, R b → ¬ Or2 F S b) → Calls Tryz.prog 13 #[.pointer (some ⟨cc, 0, none⟩)] X fun e w' =>
      ∃ F' S', e = .returned (.tuple #[.int .u64 0, .int .i64 0]) ∧ Lz M C N w' g s D2 Z2 F' S' ∧ Below N X w' from fun X cc g s F S R hX hL hI ha => by
    refine (K.take N X cc s g _ one04 D1 Z1 F S R (OKN.out X hX) hL hI ha (Cn.fresh_ok (by decide)) (by omega)).mono ?_
    rintro e w' ⟨F', S', R', h1, h2, h3, h4, h5, h6⟩
    rw [t1, t2] at h1
    rw [t3, t4] at h2
    exact ⟨F', S', h1, h2, h6.bel⟩)
  have C5 := Lib.hid (show ∀ X g s F S, Below N w X → Lz M C N X g s D2 Z2 F S → Calls Tryz.prog 21 #[.pointer (some ⟨s, 0, none⟩)] X fun e w' =>
      ∃ cc R F' S', e = .returned (.tuple #[.pointer (some ⟨cc, 0, none⟩), .int .i64 0]) ∧ K.Is N w' cc s ⟨10, 4, 4, 4, false⟩ one04 R ∧ (∀ b, R b → ¬ Or2 F' S' b) ∧ Lz M C N w' g s D2 Z2 F' S' ∧ Below N X w' from fun X g s F S hX hL => by
    refine (K.opn N X s g D2 Z2 F S (OKN.out X hX) hL).mono ?_
    rintro e w' ⟨p, F', S', h1, h2, h3, h4, h5, h6⟩
    obtain ⟨cc, R, rfl, i1, i2, i3⟩ := h3 o1
    rw [o1] at h1
    rw [o2, o3] at i1
    rw [o4] at h4
    exact ⟨cc, R, F', S', h1, i1, i3, h4, h6.bel⟩)
  have C6 := Lib.hid (show ∀ X cc g s F S R, Below N w X → Lz M C N X g s D2 Z2 F S → K.Is N X cc s ⟨10, 4, 4, 4, false⟩ one04 R → (∀ b, R b → ¬ Or2 F S b) → Calls Tryz.prog 13 #[.pointer (some ⟨cc, 0, none⟩)] X fun e w' =>
      ∃ F' S' R', e = .returned (.tuple #[.int .u64 4, .int .i64 0]) ∧ Lz M C N w' g s D3 Z3 F' S' ∧ K.Is N w' cc s ⟨10, 4, 8, 5, false⟩ one04 R' ∧ (∀ b, R' b → ¬ Or2 F' S' b) ∧ Below N X w' from fun X cc g s F S R hX hL hI ha => by
    refine (K.take N X cc s g _ one04 D2 Z2 F S R (OKN.out X hX) hL hI ha ⟨by decide, by decide⟩ (by omega)).mono ?_
    rintro e w' ⟨F', S', R', h1, h2, h3, h4, h5, h6⟩
    rw [s1, s2] at h1
    rw [s3, s4] at h2
    rw [s5] at h3
    exact ⟨F', S', R', h1, h2, h3, h4, h6.bel⟩)
  have C7 := Lib.hid (show ∀ X cc g s F S R, Below N w X → Lz M C N X g s D3 Z3 F S → K.Is N X cc s ⟨10, 4, 8, 5, false⟩ one04 R → (∀ b, R b → ¬ Or2 F S b) → Calls Tryz.prog 10 #[.pointer (some ⟨s, 0, none⟩), .slice none 0 0, .int .u64 10, .int .u64 4] X fun e w' =>
      e = .returned (.tuple #[.pointer none, .int .i64 10]) ∧ K.Is N w' cc s ⟨10, 4, 8, 5, false⟩ one04 R ∧ Below N X w' from fun X cc g s F S R hX hL hI ha => by
    refine (K.new N X s g D3 Z3 F S none 0 0 [] 10 4 (fun Y hY => OKN.out Y (hX.trans hY)) hL (Rd.nil_ X) (fun a h _ => absurd h (by omega)) (by omega) (by omega) (by omega) (by omega)).mono ?_
    rintro e w' ⟨p, F', S', h1, h2, h3, h4, h5, h6⟩
    obtain rfl := h2 (by rw [e1]; omega)
    rw [e1] at h1
    refine ⟨h1, K.keep hI h6.size fun b hb hlt => h6.same b hlt fun hO => ?_, h6.bel⟩
    rcases hb with q | q
    · have := (hL.lt b hO).1; omega
    · exact ha b q hO)
  have C8 := Lib.hid (show ∀ X cc s R, Below N w X → K.Is N X cc s ⟨10, 4, 8, 5, false⟩ one04 R → Calls Tryz.prog 27 #[.pointer (some ⟨cc, 0, none⟩)] X fun e w' => ∃ A c, e = .returned (.slice A 1 c) ∧ Rd w' A 1 c one04 ∧ K.Is N w' cc s ⟨10, 4, 8, 5, false⟩ one04 R ∧ Below N w w' from
    fun X cc s R hX hI => (K.head N X cc s _ one04 R (OKN.out X hX) hI).mono fun e w' ⟨A, c, h1, h2, h4⟩ => ⟨A, c, h1, Rd.own h2, K.keep hI h4.size fun b _ hlt => h4.block b hlt, BN.out _ _ hX h4⟩)
  have C9 := Lib.hid (show ∀ X cc s R, Below N w X → K.Is N X cc s ⟨10, 4, 8, 5, false⟩ one04 R → Calls Tryz.prog 25 #[.pointer (some ⟨cc, 0, none⟩)] X fun e w' => e = .returned (.agg #[.int .u64 10, .int .u64 4, .int .u64 8, .int .u64 5, .bool false]) ∧ Below N w w' from
    fun X cc s R hX hI => (K.state N X cc s _ one04 R (OKN.out X hX) hI).mono fun e w' ⟨h1, h4⟩ => ⟨h1, BN.out _ _ hX h4⟩)
  have EQ : ∀ W, (binOp .eql 46 (.agg #[.int .u64 10, .int .u64 4, .int .u64 8, .int .u64 5, .bool false]) (.agg #[.int .u64 10, .int .u64 4, .int .u64 8, .int .u64 5, .bool false])).run Tryz.prog W = .ok (.bool true) W := fun W => run_eql_Cn ⟨10, 4, 8, 5, false⟩ ⟨10, 4, 8, 5, false⟩ W
  have kc := fun (w : World) (C : Array Value) (n c : Nat) => Lib.run_convert_bytes_const (P := Tryz.prog) w 23 5 C n c Tryz.underlying23 Tryz.underlying5
  clear n1 n2 n3 t1 t2 t3 t4 t5 o1 o2 o3 o4 s1 s2 s3 s4 s5 e1 d1 d2 d3 hk
  go_enter Tryz.func5, Tryz.ntmps5
  go_upto_region 16 with (first
    | (go_at_call 6; ((with_reducible refine C1.out.mono ?_); rintro e w1 ⟨g, F1, rfl, i1, b1⟩; have I1 := Lib.hid i1; have B1 := Lib.hid b1; clear i1 b1))
    | (go_at_call 8; ((with_reducible refine (C2.out w1 g F1 B1.out I1.out).mono ?_); rintro e w2 ⟨s, F2, S2, rfl, i2, b2⟩; have I2 := Lib.hid i2; have B2 := Lib.hid (B1.out.trans b2); clear i2 b2))
    | (go_at_call 10; ((with_reducible refine (C7.out w6 oo g s F6 S6 R6 B6.out L6.out I6.out A6.out).mono ?_); rintro e w7 ⟨rfl, i7, b7⟩; have I7 := Lib.hid i7; have B7 := Lib.hid (B6.out.trans b7); clear i7 b7))
    | (go_at_call 10; ((refine (C3.out w2 g s F2 S2 B2.out I2.out).mono ?_); rintro e w3 ⟨cc, R3, F3, S3, rfl, i3, a3, l3, b3⟩; have I3 := Lib.hid i3; have A3 := Lib.hid a3; have L3 := Lib.hid l3; have B3 := Lib.hid (B2.out.trans b3); clear i3 a3 l3 b3))
    | (go_at_call 13; ((with_reducible refine (C4.out w3 cc g s F3 S3 R3 B3.out L3.out I3.out A3.out).mono ?_); rintro e w4 ⟨F4, S4, rfl, l4, b4⟩; have L4 := Lib.hid l4; have B4 := Lib.hid (B3.out.trans b4); clear l4 b4))
    | (go_at_call 21; ((with_reducible refine (C5.out w4 g s F4 S4 B4.out L4.out).mono ?_); rintro e w5 ⟨oo, R5, F5, S5, rfl, i5, a5, l5, b5⟩; have I5 := Lib.hid i5; have A5 := Lib.hid a5; have L5 := Lib.hid l5; have B5 := Lib.hid (B4.out.trans b5); clear i5 a5 l5 b5))
    | (go_at_call 13; ((with_reducible refine (C6.out w5 oo g s F5 S5 R5 B5.out L5.out I5.out A5.out).mono ?_); rintro e w6 ⟨F6, S6, R6, rfl, l6, i6, a6, b6⟩; have L6 := Lib.hid l6; have I6 := Lib.hid i6; have A6 := Lib.hid a6; have B6 := Lib.hid (B5.out.trans b6); clear l6 i6 a6 b6)))
  have EC := Lib.hid EQ
  go_wp2_with (first
    | (go_at_call 27; ((with_reducible refine (C8.out w7 oo s R6 B7.out I7.out).mono ?_); rintro e w8 ⟨A8, c8, rfl, r8, i8, b8⟩; have V8 := rd_convert r8; simp only [one04] at V8; have I8 := Lib.hid i8; have B8 := Lib.hid b8; clear i8 b8 r8))
    | (go_at_call 25; ((with_reducible refine (C9.out w8 oo s R6 B8.out I8.out).mono ?_); rintro e w9 ⟨rfl, b9⟩; have B9 := Lib.hid b9; clear b9)))
  go_ret
  exact ⟨rfl, by first | exact B9.out | (rw [HN.out]; exact B9.out)⟩
end Go.Proofs.YtnoflgkjdibblaaGreatDoor.S21
