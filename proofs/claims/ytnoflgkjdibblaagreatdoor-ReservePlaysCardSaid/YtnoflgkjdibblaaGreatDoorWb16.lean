/-
  Texts put together: Sl11, RvI. No statement is proved here.
-/
import Derived.Test.YtnoflgkjdibblaaGreatDoorWb15
import Derived.Test.YtnoflgkjdibblaaGreatDoorWb10
import Derived.Test.YtnoflgkjdibblaaGreatDoorWb13
import Derived.Test.YtnoflgkjdibblaaGreatDoorWb14
import Derived.Test.YtnoflgkjdibblaaGreatDoorWb06

/-
  The landed disk and slots beside the document's own; a sector's bytes cut or filled; whether a step is too great. No statement is proved here.
-/
namespace Go.Proofs.YtnoflgkjdibblaaGreatDoor.S20
set_option linter.unusedSimpArgs false
set_option linter.unusedVariables false
set_option maxRecDepth 4096
open Go.RowKit S19

theorem writes_cnt (at_ : Nat) (xs : List UInt8) : ∀ (k j : Nat) (D : Dk), (Sl.writes at_ xs k j D).2.cnt ≤ D.cnt + k
  | 0, j, D => Nat.le_refl _
  | k + 1, j, D => by
    unfold Sl.writes
    have hw := Dk.write_cnt D ((at_ + j : Nat) : Int) (Sl.row xs j)
    split
    · have := writes_cnt at_ xs k (j + 1) (D.write ((at_ + j : Nat) : Int) (Sl.row xs j))
      omega
    · show (D.write _ _).cnt ≤ _
      omega
theorem saveD_cnt (Z : Sl) (D : Dk) (b : List UInt8) : (Z.saveD D b).cnt ≤ D.cnt + Z.n + 1 := by
  unfold Sl.saveD
  split
  · omega
  · have h := writes_cnt (Z.first + Z.goes * Z.n) (recB Z.next b Z.n) Z.n 0 D
    split
    · have h2 := Dk.flush_cnt (Z.written D b).2
      have h3 : (Z.written D b).2.cnt ≤ D.cnt + Z.n := h
      omega
    · have h3 : (Z.written D b).2.cnt ≤ D.cnt + Z.n := h
      omega
/-- The document's slots are so in any world where their blocks, and those below N, are as they were. -/
theorem Qs.keep {N : Nat} {w w' : World} {h q k : Nat} {L : Value} {D : Dk} {Z : Sl} {G S T : Nat → Prop} (t : Qs N w h q L k D Z G S T) (hs : w.heap.size ≤ w'.heap.size) (hk : ∀ b, (b < N ∨ Or3 G S T b) → b < w.heap.size → w'.heap[b]? = w.heap[b]?) : Qs N w' h q L k D Z G S T :=
  ⟨t.rk.keep hs fun b hb hl => hk b (hb.imp id .inl) hl, t.rz.keep hs fun b e => hk b (.inr (.inr (.inl e))) (t.rz.lt b e).2, t.ld.keep hs fun b e => hk b (.inr (.inr (.inr e))) (t.ld.lt b e).2, t.zo, t.gs, t.gt, t.st⟩
theorem Lz.keep {M : DC} {C : SlC M} {N : Nat} {w w' : World} {g s : Nat} {D : Dk} {Z : Sl} {F S : Nat → Prop} (t : Lz M C N w g s D Z F S) (hs : w.heap.size ≤ w'.heap.size) (hk : ∀ b, (b < N ∨ Or2 F S b) → b < w.heap.size → w'.heap[b]? = w.heap[b]?) : Lz M C N w' g s D Z F S :=
  ⟨M.keep t.is hs fun b hb hl => hk b (hb.imp id .inl) hl, C.keep t.sl hs fun b hb hl => hk b (hb.imp id .inr) hl, t.dj, t.zo⟩
/-- The landed disk and slots, and the document's own, apart. -/
structure Bo (M : DC) (C : SlC M) (N : Nat) (w : World) (g s h q : Nat) (L : Value) (k : Nat) (D : Dk) (Z : Sl) (D2 : Dk) (Z2 : Sl) (F S G R T : Nat → Prop) : Prop where
  lz : Lz M C N w g s D Z F S
  qs : Qs N w h q L k D2 Z2 G R T
  ap : ∀ b, Or2 F S b → ¬ Or3 G R T b
section
variable {M : DC} {C : SlC M} {N : Nat} {w w' : World} {g s s' h q q' k k' : Nat} {L L' : Value} {D D' D2 D2' : Dk} {Z Z' Z2 Z2' : Sl} {F S G R T F' S' G' R' T' : Nat → Prop}
theorem Bo.left (t : Bo M C N w g s h q L k D Z D2 Z2 F S G R T) (l : Lz M C N w' g s' D' Z' F' S') (hs : ∀ b, Or2 F' S' b → Or2 F S b ∨ w.heap.size ≤ b) (m : Mv N (Or2 F S) w w') : Bo M C N w' g s' h q L k D' Z' D2 Z2 F' S' G R T := by
  refine ⟨l, t.qs.keep m.size fun b hb hlt => m.same b hlt fun hO => ?_, fun b h1 h2 => ?_⟩
  · rcases hb with e | e
    · have := (t.lz.lt b hO).1; omega
    · exact t.ap b hO e
  · rcases hs b h1 with e | e
    · exact t.ap b e h2
    · have := (t.qs.lt b h2).2; omega
theorem Bo.right (t : Bo M C N w g s h q L k D Z D2 Z2 F S G R T) (l : Qs N w' h q' L' k' D2' Z2' G' R' T') (hs : ∀ b, Or3 G' R' T' b → Or3 G R T b ∨ w.heap.size ≤ b) (m : Mv N (Or3 G R T) w w') : Bo M C N w' g s h q' L' k' D Z D2' Z2' F S G' R' T' := by
  refine ⟨t.lz.keep m.size fun b hb hlt => m.same b hlt fun hO => ?_, l, fun b h1 h2 => ?_⟩
  · rcases hb with e | e
    · have := (t.qs.lt b hO).1; omega
    · exact t.ap b e hO
  · rcases hs b h2 with e | e
    · exact t.ap b h1 e
    · have := (t.lz.lt b h1).2; omega
theorem Bo.grow (t : Bo M C N w g s h q L k D Z D2 Z2 F S G R T) (hb : Below w.heap.size w w') : Bo M C N w' g s h q L k D Z D2 Z2 F S G R T := ⟨t.lz.grow hb, t.qs.grow hb, t.ap⟩
end
end Go.Proofs.YtnoflgkjdibblaaGreatDoor.S20

/-
  The document's own counter: where it lies, and Take. No statement is proved here. (Written by genrvi.py.)
-/
namespace Go.Proofs.YtnoflgkjdibblaaGreatDoor.S21
set_option linter.unusedSimpArgs false
set_option linter.unusedVariables false
set_option maxRecDepth 4096
open Go.RowKit S19 S20

abbrev rcA (x : Cn) (A : Option Addr) (n c q : Nat) : Array Value := #[.bool true, .int .u64 (x.tot : Int), .int .u64 (x.bat : Int), .int .u64 (x.res : Int), .int .u64 (x.nxt : Int), .bool x.gone, .slice A n c, .pointer (some ⟨q, 0, none⟩)]
/-- Where the document's own counter lies, when it is open. -/
structure Rc (N : Nat) (w : World) (kc q : Nat) (x : Cn) (h : List UInt8) (K : Nat → Prop) : Prop where
  ex : ∃ A c, Bk w kc 48 (rcA x A h.length c q) ∧ Rd w A h.length c h ∧ ∀ a, 0 < h.length → A = some a → (a.block < N ∨ K a.block) ∧ a.block ≠ kc
  at_ : K kc
  lt : ∀ b, K b → N ≤ b ∧ b < w.heap.size
/-- The document's own disk, slots and counter. -/
structure Qc (N : Nat) (w : World) (h q kc : Nat) (L : Value) (k : Nat) (D : Dk) (Z : Sl) (x : Cn) (hd : List UInt8) (G S T K : Nat → Prop) : Prop where
  qs : Qs N w h q L k D Z G S T
  rc : Rc N w kc q x hd K
  kg : ∀ b, K b → ¬ Or3 G (fun x => x = q) T b
  ks : ¬ S kc
section
variable {N : Nat} {w w' : World} {h q kc k k' : Nat} {L L' : Value} {D D' : Dk} {Z Z' : Sl} {x x' : Cn} {hd : List UInt8} {G S T K G' S' T' : Nat → Prop}
theorem Rc.keep (r : Rc N w kc q x hd K) (hs : w.heap.size ≤ w'.heap.size) (hk : ∀ b, (b < N ∨ K b) → b < w.heap.size → w'.heap[b]? = w.heap[b]?) : Rc N w' kc q x hd K := by
  obtain ⟨A, c, h1, h2, h3⟩ := r.ex
  refine ⟨⟨A, c, (hk kc (.inr r.at_) (r.lt kc r.at_).2).trans h1, ⟨h2.len, h2.cap, h2.max, h2.nil, fun hn => ?_⟩, h3⟩, r.at_, fun b hb => ⟨(r.lt b hb).1, Nat.lt_of_lt_of_le (r.lt b hb).2 hs⟩⟩
  obtain ⟨b, off, rfl, hl, hc⟩ := h2.at_ hn
  exact ⟨b, off, rfl, Nat.lt_of_lt_of_le hl hs, fun j hj => (World.cell?_of_block (a := ⟨b, off + j, none⟩) (hk b (h3 _ hn rfl).1 hl)).trans (hc j hj)⟩
theorem Rc.lt2 (r : Rc N w kc q x hd K) : kc < w.heap.size := (r.lt kc r.at_).2
theorem Qc.grow (t : Qc N w h q kc L k D Z x hd G S T K) (hb : Below w.heap.size w w') : Qc N w' h q kc L k D Z x hd G S T K :=
  ⟨t.qs.grow hb, t.rc.keep hb.size fun b _ hl => hb.block b hl, t.kg, t.ks⟩
/-- The counter's own cells have turned. -/
theorem Qc.set (t : Qc N w h q kc L k D Z x hd G S T K) (hs : w.heap.size ≤ w'.heap.size) (hk : ∀ b, b ≠ kc → b < w.heap.size → w'.heap[b]? = w.heap[b]?) (hc : ∀ A c, Bk w kc 48 (rcA x A hd.length c q) → Bk w' kc 48 (rcA x' A hd.length c q)) :
    Qc N w' h q kc L k D Z x' hd G S T K := by
  refine ⟨t.qs.keep hs fun b hb hl => hk b (fun e => ?_) hl, ?_, t.kg, t.ks⟩
  · subst e
    rcases hb with e | e | e | e
    · have := (t.rc.lt _ t.rc.at_).1; omega
    · exact t.kg _ t.rc.at_ (.inl e)
    · exact t.ks e
    · exact t.kg _ t.rc.at_ (.inr (.inr e))
  · obtain ⟨A, c, h1, h2, h3⟩ := t.rc.ex
    refine ⟨⟨A, c, hc A c h1, ⟨h2.len, h2.cap, h2.max, h2.nil, fun hn => ?_⟩, h3⟩, t.rc.at_, fun b hb => ⟨(t.rc.lt b hb).1, Nat.lt_of_lt_of_le (t.rc.lt b hb).2 hs⟩⟩
    obtain ⟨b, off, rfl, hl, hc⟩ := h2.at_ hn
    exact ⟨b, off, rfl, Nat.lt_of_lt_of_le hl hs, fun j hj => (World.cell?_of_block (a := ⟨b, off + j, none⟩) (hk b (h3 _ hn rfl).2 hl)).trans (hc j hj)⟩
/-- All of the counter's five numbers have turned. -/
theorem Qc.set5 (t : Qc N w h q kc L k D Z x hd G S T K) (y : Cn) : Qc N (((((w.setCell ⟨kc, 1, none⟩ (.int .u64 (y.tot : Int))).setCell ⟨kc, 2, none⟩ (.int .u64 (y.bat : Int))).setCell ⟨kc, 3, none⟩ (.int .u64 (y.res : Int))).setCell ⟨kc, 4, none⟩ (.int .u64 (y.nxt : Int))).setCell ⟨kc, 5, none⟩ (.bool y.gone)) h q kc L k D Z y hd G S T K ∧ Mv N (fun b => b = kc) w (((((w.setCell ⟨kc, 1, none⟩ (.int .u64 (y.tot : Int))).setCell ⟨kc, 2, none⟩ (.int .u64 (y.bat : Int))).setCell ⟨kc, 3, none⟩ (.int .u64 (y.res : Int))).setCell ⟨kc, 4, none⟩ (.int .u64 (y.nxt : Int))).setCell ⟨kc, 5, none⟩ (.bool y.gone)) := by
  have hn := (t.rc.lt kc t.rc.at_).1
  refine ⟨t.set (by simp) (fun b hne _ => ?_) (fun A c hB => ((((hB.put 1 _).put 2 _).put 3 _).put 4 _).put 5 _), ?_⟩
  · exact (Below.heap_setCell _ ⟨kc, 5, none⟩ _ b hne).trans ((Below.heap_setCell _ ⟨kc, 4, none⟩ _ b hne).trans ((Below.heap_setCell _ ⟨kc, 3, none⟩ _ b hne).trans ((Below.heap_setCell _ ⟨kc, 2, none⟩ _ b hne).trans (Below.heap_setCell _ ⟨kc, 1, none⟩ _ b hne))))
  · have p : ∀ (X : World) i u, Mv N (fun b => b = kc) X (X.setCell ⟨kc, i, none⟩ u) := fun X i u => Mv.poke (G := fun b => b = kc) hn rfl X i u
    exact ((((p _ 1 _).trans (p _ 2 _) fun b hb => .inl hb).trans (p _ 3 _) fun b hb => .inl hb).trans (p _ 4 _) fun b hb => .inl hb).trans (p _ 5 _) fun b hb => .inl hb
theorem Qc.saved (t : Qc N w h q kc L k D Z x hd G S T K) {v : Value} {e : Ending} (p : PostS N h q k G S T w D' Z' v e w') :
    e = .returned v ∧ ∃ L' k' G' S' T', k' ≤ k + 1 ∧ Qc N w' h q kc L' k' D' Z' x hd G' S' T' K ∧ Sub3 G S T G' S' T' w.heap.size ∧ Mv N (Or3 G (fun x => x = q) T) w w' := by
  obtain ⟨h1, L', k', G', S', T', h2, h3, h4, h5⟩ := p
  refine ⟨h1, L', k', G', S', T', h2, ⟨h3, t.rc.keep h5.size fun b hb hl => h5.same b hl fun e => ?_, fun b hb e => ?_, fun e => ?_⟩, h4, h5⟩
  · rcases hb with e2 | e2
    · rcases e with e | e | e
      · have := (t.qs.lt b (.inl e)).1; omega
      · have e' : b = q := e; have := (t.qs.lt q (.inr (.inl t.qs.rz.at_))).1; omega
      · have := (t.qs.lt b (.inr (.inr e))).1; omega
    · exact t.kg b e2 e
  · have hlt := (t.rc.lt b hb).2
    rcases e with e | e | e
    · rcases h4.1 b e with e2 | e2
      · exact t.kg b hb (.inl e2)
      · omega
    · exact t.kg b hb (.inr (.inl e))
    · rcases h4.2.2 b e with e2 | e2
      · exact t.kg b hb (.inr (.inr e2))
      · omega
  · rcases h4.2.1 kc e with e2 | e2
    · exact t.ks e2
    · have := t.rc.lt2; omega
/-- What a call on the counter leaves. -/
def PostC (N : Nat) (h q kc k : Nat) (hd : List UInt8) (G S T K : Nat → Prop) (w : World) (D' : Dk) (Z' : Sl) (x' : Cn) (w' : World) : Prop :=
  ∃ L' k' G' S' T', k' ≤ k + 1 ∧ Qc N w' h q kc L' k' D' Z' x' hd G' S' T' K ∧ Sub3 G S T G' S' T' w.heap.size ∧ Mv N (fun b => Or3 G (fun x => x = q) T b ∨ b = kc) w w'
theorem Sub3.same (G S T : Nat → Prop) (n : Nat) : Sub3 G S T G S T n := ⟨fun _ e => .inl e, fun _ e => .inl e, fun _ e => .inl e⟩
theorem Sub3.mono {n m : Nat} (h : Sub3 G S T G' S' T' m) (hn : n ≤ m) : Sub3 G S T G' S' T' n := ⟨fun b e => (h.1 b e).imp id (Nat.le_trans hn), fun b e => (h.2.1 b e).imp id (Nat.le_trans hn), fun b e => (h.2.2 b e).imp id (Nat.le_trans hn)⟩
end
theorem own_blk {w : World} {B e n : Nat} {A : Option Addr} {c : Nat} {xs : List Value} (h : w.ownsRow B e 1 (.slice A n c) n xs) (hn : 0 < n) : ∃ g, A = some ⟨g, 0, none⟩ ∧ B ≤ g := by
  rcases h.2 with ⟨hv, h0⟩ | ⟨g, cap, cur, hv, hB, hh, hnc, hcm, _, htake⟩
  · omega
  · injection hv with h1 h2 h3
    exact ⟨g, h1, hB⟩
set_option maxHeartbeats 8000000 in
theorem rtake21_any (N : Nat) (w : World) (h q kc : Nat) (L : Value) (k : Nat) (D : Dk) (Z : Sl) (x : Cn) (hd : List UInt8) (G S T K : Nat → Prop) (t : Qc N w h q kc L k D Z x hd G S T K) (ok : x.Ok hd.length) (hc : D.cnt < 1099511627000) (hk : k < 1000000) :
    Calls Tryz.prog 14 #[.pointer (some ⟨kc, 0, none⟩)] w fun e w' => e = .returned (.tuple #[.int .u64 (x.takeN hd Z D : Int), .int .i64 (x.takeC hd Z D : Int)]) ∧ PostC N h q kc k hd G S T K w (x.takeD hd Z D) (x.takeZ hd Z D) (x.take hd Z D) w' := by
  obtain ⟨A, c, hb, hr, hi⟩ := t.rc.ex
  have hm := ok.may
  have hle := ok.le
  unfold Cn.May at hm
  have hNw : N ≤ w.heap.size := rk_loN t.qs.rk
  have SAME := Lib.hid (show ∀ X, Below w.heap.size w X → PostC N h q kc k hd G S T K w D Z x X from fun X hX => ⟨L, k, G, S, T, by omega, t.grow hX, Sub3.same _ _ _ _, Mv.of hNw hX⟩)
  have KC := Lib.hid (show ∀ X : World, X.heap[kc]? = w.heap[kc]? → X.cell? ⟨kc, 1, none⟩ = some (.int .u64 (x.tot : Int)) ∧ X.cell? ⟨kc, 2, none⟩ = some (.int .u64 (x.bat : Int)) ∧ X.cell? ⟨kc, 3, none⟩ = some (.int .u64 (x.res : Int)) ∧ X.cell? ⟨kc, 4, none⟩ = some (.int .u64 (x.nxt : Int)) ∧ X.cell? ⟨kc, 5, none⟩ = some (.bool x.gone) ∧ X.cell? ⟨kc, 6, none⟩ = some (.slice A hd.length c) ∧ X.cell? ⟨kc, 7, none⟩ = some (.pointer (some ⟨q, 0, none⟩)) from fun X hX => by
    have hq : Bk X kc 48 (rcA x A hd.length c q) := hX.trans hb
    exact ⟨hq.cell 1, hq.cell 2, hq.cell 3, hq.cell 4, hq.cell 5, hq.cell 6, hq.cell 7⟩)
  have QT := Lib.hid t
  have HB := Lib.hid hb
  have HR := Lib.hid hr
  have HI := Lib.hid hi
  have LT := Lib.hid t.rc.lt2
  have HNW := Lib.hid hNw
  have HKN := Lib.hid (t.rc.lt kc t.rc.at_).1
  -- the last step: one more is given out
  have LAST := Lib.hid (show ∀ (X : World) L' k' G' S' T' D' Z' y, y.nxt < 18446744073709551615 → k' ≤ k + 1 → Qc N X h q kc L' k' D' Z' y hd G' S' T' K → Sub3 G S T G' S' T' w.heap.size → Mv N (fun b => Or3 G (fun x => x = q) T b ∨ b = kc) w X → PostC N h q kc k hd G S T K w D' Z' y.next (X.setCell ⟨kc, 4, none⟩ (.int .u64 (y.nxt + 1 : Int))) from fun X L' k' G' S' T' D' Z' y hy h1 h2 h3 h4 =>
    ⟨L', k', G', S', T', h1, h2.set (by simp) (fun b hne _ => Below.heap_setCell _ ⟨kc, 4, none⟩ _ b hne) (fun A c hB => hB.put 4 _), h3, h4.trans (Mv.poke (G := fun b => b = kc) (t.rc.lt kc t.rc.at_).1 rfl _ 4 _) fun b hb => .inl (.inr hb)⟩)
  obtain ⟨tt, bb, rr, nx, gn⟩ := x
  simp only at *
  cases gn
  rotate_left
  · rw [show Cn.takeC ⟨tt, bb, rr, nx, true⟩ hd Z D = 13 from rfl, show Cn.takeN ⟨tt, bb, rr, nx, true⟩ hd Z D = 0 from rfl, show Cn.takeD ⟨tt, bb, rr, nx, true⟩ hd Z D = D from rfl, show Cn.takeZ ⟨tt, bb, rr, nx, true⟩ hd Z D = Z from rfl, show Cn.take ⟨tt, bb, rr, nx, true⟩ hd Z D = ⟨tt, bb, rr, nx, true⟩ from rfl]
    obtain ⟨c1, c2, c3, c4, c5, c6, c7⟩ := KC.out w rfl
    clear t ok hc hk hb hr hi hm hle hNw
    go_enter Tryz.func14, Tryz.ntmps14
    go_wp2
    go_ret2
    exact ⟨rfl, SAME.out _ (Below.refl _ _)⟩
  by_cases q1 : tt ≤ nx
  · have e1 : Cn.takeC ⟨tt, bb, rr, nx, false⟩ hd Z D = 9 := by simp [Cn.takeC, q1]
    have e2 : Cn.must ⟨tt, bb, rr, nx, false⟩ = false := by simp [Cn.must]; intro; omega
    rw [show Cn.takeN ⟨tt, bb, rr, nx, false⟩ hd Z D = 0 by rw [Cn.takeN, e1]; rfl, show Cn.takeD ⟨tt, bb, rr, nx, false⟩ hd Z D = D by rw [Cn.takeD, e2]; rfl, show Cn.takeZ ⟨tt, bb, rr, nx, false⟩ hd Z D = Z by rw [Cn.takeZ, e2]; rfl, show Cn.take ⟨tt, bb, rr, nx, false⟩ hd Z D = ⟨tt, bb, rr, nx, false⟩ by rw [Cn.take, e1]; rfl, e1]
    obtain ⟨c1, c2, c3, c4, c5, c6, c7⟩ := KC.out w rfl
    have y1 : (tt : Int) ≤ (nx : Int) := by omega
    clear t ok hc hk hb hr hi hm hle hNw e1 e2 q1
    go_enter Tryz.func14, Tryz.ntmps14
    go_upto_region 3 with (fail)
    clear c1 c2 c3 c4 c5 c6 c7
    have s0 : Below w.heap.size w w.drew := (Below.refl _ _).drew
    refine wp_region_steady (fun X => Below w.heap.size w X) (by kernel_rfl) (by kernel_rfl) s0 ?_
    clear s0
    (refine seq_pure (v := ?_) (by rfl) ?_ ?_; rotate_left; (· (intro w' hS; obtain ⟨c1, c2, c3, c4, c5, c6, c7⟩ := KC.out w' (hS.block kc LT.out); go_simp; try with_reducible rfl)); simp only [Act.put, List.setIfInBounds_toArray, List.set_cons_zero, List.set_cons_succ])
    (refine seq_pure (v := ?_) (by rfl) ?_ ?_; rotate_left; (· (intro w' hS; obtain ⟨c1, c2, c3, c4, c5, c6, c7⟩ := KC.out w' (hS.block kc LT.out); go_simp; try with_reducible rfl)); simp only [Act.put, List.setIfInBounds_toArray, List.set_cons_zero, List.set_cons_succ])
    (refine seq_pure (v := ?_) (by rfl) ?_ ?_; rotate_left; (· (intro w' hS; obtain ⟨c1, c2, c3, c4, c5, c6, c7⟩ := KC.out w' (hS.block kc LT.out); go_simp; try with_reducible rfl)); simp only [Act.put, List.setIfInBounds_toArray, List.set_cons_zero, List.set_cons_succ])
    (refine seq_pure (v := ?_) (by rfl) ?_ ?_; rotate_left; (· (intro w' hS; obtain ⟨c1, c2, c3, c4, c5, c6, c7⟩ := KC.out w' (hS.block kc LT.out); go_simp; try with_reducible rfl)); simp only [Act.put, List.setIfInBounds_toArray, List.set_cons_zero, List.set_cons_succ])
    (refine seq_pure (v := ?_) (by rfl) ?_ ?_; rotate_left; (· (intro w' hS; obtain ⟨c1, c2, c3, c4, c5, c6, c7⟩ := KC.out w' (hS.block kc LT.out); go_simp; try with_reducible rfl)); simp only [Act.put, List.setIfInBounds_toArray, List.set_cons_zero, List.set_cons_succ])
    (refine seq_pure (v := ?_) (by rfl) ?_ ?_; rotate_left; (· (intro w' hS; obtain ⟨c1, c2, c3, c4, c5, c6, c7⟩ := KC.out w' (hS.block kc LT.out); go_simp; try with_reducible rfl)); simp only [Act.put, List.setIfInBounds_toArray, List.set_cons_zero, List.set_cons_succ])
    (refine seq_pure (v := ?_) (by rfl) ?_ ?_; rotate_left; (· (intro w' hS; obtain ⟨c1, c2, c3, c4, c5, c6, c7⟩ := KC.out w' (hS.block kc LT.out); go_simp; try with_reducible rfl)); simp only [Act.put, List.setIfInBounds_toArray, List.set_cons_zero, List.set_cons_succ])
    (refine seq_pure (v := ?_) (by rfl) ?_ ?_; rotate_left; (· (intro w' hS; obtain ⟨c1, c2, c3, c4, c5, c6, c7⟩ := KC.out w' (hS.block kc LT.out); go_simp; try with_reducible rfl)); simp only [Act.put, List.setIfInBounds_toArray, List.set_cons_zero, List.set_cons_succ])
    (refine seq_pure (v := ?_) (by rfl) ?_ ?_; rotate_left; (· (intro w' hS; obtain ⟨c1, c2, c3, c4, c5, c6, c7⟩ := KC.out w' (hS.block kc LT.out); go_simp; try with_reducible rfl)); simp only [Act.put, List.setIfInBounds_toArray, List.set_cons_zero, List.set_cons_succ])
    (refine seq_pure (v := ?_) (by rfl) ?_ ?_; rotate_left; (· (intro w' hS; obtain ⟨c1, c2, c3, c4, c5, c6, c7⟩ := KC.out w' (hS.block kc LT.out); go_simp; try with_reducible rfl)); simp only [Act.put, List.setIfInBounds_toArray, List.set_cons_zero, List.set_cons_succ])
    (refine seq_pure (v := ?_) (by rfl) ?_ ?_; rotate_left; (· (intro w' hS; obtain ⟨c1, c2, c3, c4, c5, c6, c7⟩ := KC.out w' (hS.block kc LT.out); go_simp; try with_reducible rfl)); simp only [Act.put, List.setIfInBounds_toArray, List.set_cons_zero, List.set_cons_succ])
    refine seq_nil ?_
    intro w1 b1
    have B1 := Lib.hid b1
    clear b1
    obtain ⟨c1, c2, c3, c4, c5, c6, c7⟩ := KC.out w1 (B1.out.block kc LT.out)
    go_wp2
    go_ret2
    exact ⟨rfl, SAME.out _ B1.out⟩
  obtain ⟨n1, hn1⟩ : ∃ n1, n1 = nx + 1 := ⟨_, rfl⟩
  have y1 : ¬ (tt : Int) ≤ (nx : Int) := by omega
  have hn2 : nx < 18446744073709551615 := by omega
  have w1 : IntKind.u64.wrap ((nx : Int) + 1) = (n1 : Int) := by rw [IntKind.wrap_u64]; omega
  have w2 : ((nx : Int) + 1) % 18446744073709551616 = (n1 : Int) := by omega
  have w3 : IntKind.u64.wrap ((n1 : Int) - 1) = (nx : Int) := by rw [IntKind.wrap_u64]; omega
  have w4 : ((n1 : Int) - 1) % 18446744073709551616 = (nx : Int) := by omega
  have N1 := Lib.hid hn1
  have N2 := Lib.hid hn2
  by_cases q2 : rr ≤ nx
  rotate_left
  · have e1 : Cn.takeC ⟨tt, bb, rr, nx, false⟩ hd Z D = 0 := by simp [Cn.takeC, q1, q2]
    have e2 : Cn.must ⟨tt, bb, rr, nx, false⟩ = false := by simp [Cn.must, q2]
    rw [show Cn.takeN ⟨tt, bb, rr, nx, false⟩ hd Z D = nx by rw [Cn.takeN, e1]; rfl, show Cn.takeD ⟨tt, bb, rr, nx, false⟩ hd Z D = D by rw [Cn.takeD, e2]; rfl, show Cn.takeZ ⟨tt, bb, rr, nx, false⟩ hd Z D = Z by rw [Cn.takeZ, e2]; rfl, show Cn.take ⟨tt, bb, rr, nx, false⟩ hd Z D = Cn.next ⟨tt, bb, rr, nx, false⟩ by rw [Cn.take, e1, e2]; rfl, e1]
    obtain ⟨c1, c2, c3, c4, c5, c6, c7⟩ := KC.out w rfl
    have f4 := HB.out.frozen 4
    have y2 : ¬ (rr : Int) ≤ (nx : Int) := by omega
    clear t ok hc hk hb hr hi hm hle hNw e1 e2 q1 q2 hn1 hn2
    go_enter Tryz.func14, Tryz.ntmps14
    go_upto_region 3 with (fail)
    clear c1 c2 c3 c4 c5 c6 c7
    have s0 : Below w.heap.size w w.drew := (Below.refl _ _).drew
    refine wp_region_steady (fun X => Below w.heap.size w X) (by kernel_rfl) (by kernel_rfl) s0 ?_
    clear s0
    (refine seq_pure (v := ?_) (by rfl) ?_ ?_; rotate_left; (· (intro w' hS; obtain ⟨c1, c2, c3, c4, c5, c6, c7⟩ := KC.out w' (hS.block kc LT.out); go_simp; try with_reducible rfl)); simp only [Act.put, List.setIfInBounds_toArray, List.set_cons_zero, List.set_cons_succ])
    (refine seq_pure (v := ?_) (by rfl) ?_ ?_; rotate_left; (· (intro w' hS; obtain ⟨c1, c2, c3, c4, c5, c6, c7⟩ := KC.out w' (hS.block kc LT.out); go_simp; try with_reducible rfl)); simp only [Act.put, List.setIfInBounds_toArray, List.set_cons_zero, List.set_cons_succ])
    (refine seq_pure (v := ?_) (by rfl) ?_ ?_; rotate_left; (· (intro w' hS; obtain ⟨c1, c2, c3, c4, c5, c6, c7⟩ := KC.out w' (hS.block kc LT.out); go_simp; try with_reducible rfl)); simp only [Act.put, List.setIfInBounds_toArray, List.set_cons_zero, List.set_cons_succ])
    (refine seq_pure (v := ?_) (by rfl) ?_ ?_; rotate_left; (· (intro w' hS; obtain ⟨c1, c2, c3, c4, c5, c6, c7⟩ := KC.out w' (hS.block kc LT.out); go_simp; try with_reducible rfl)); simp only [Act.put, List.setIfInBounds_toArray, List.set_cons_zero, List.set_cons_succ])
    (refine seq_pure (v := ?_) (by rfl) ?_ ?_; rotate_left; (· (intro w' hS; obtain ⟨c1, c2, c3, c4, c5, c6, c7⟩ := KC.out w' (hS.block kc LT.out); go_simp; try with_reducible rfl)); simp only [Act.put, List.setIfInBounds_toArray, List.set_cons_zero, List.set_cons_succ])
    (refine seq_pure (v := ?_) (by rfl) ?_ ?_; rotate_left; (· (intro w' hS; obtain ⟨c1, c2, c3, c4, c5, c6, c7⟩ := KC.out w' (hS.block kc LT.out); go_simp; try with_reducible rfl)); simp only [Act.put, List.setIfInBounds_toArray, List.set_cons_zero, List.set_cons_succ])
    (refine seq_pure (v := ?_) (by rfl) ?_ ?_; rotate_left; (· (intro w' hS; obtain ⟨c1, c2, c3, c4, c5, c6, c7⟩ := KC.out w' (hS.block kc LT.out); go_simp; try with_reducible rfl)); simp only [Act.put, List.setIfInBounds_toArray, List.set_cons_zero, List.set_cons_succ])
    (refine seq_pure (v := ?_) (by rfl) ?_ ?_; rotate_left; (· (intro w' hS; obtain ⟨c1, c2, c3, c4, c5, c6, c7⟩ := KC.out w' (hS.block kc LT.out); go_simp; try with_reducible rfl)); simp only [Act.put, List.setIfInBounds_toArray, List.set_cons_zero, List.set_cons_succ])
    (refine seq_pure (v := ?_) (by rfl) ?_ ?_; rotate_left; (· (intro w' hS; obtain ⟨c1, c2, c3, c4, c5, c6, c7⟩ := KC.out w' (hS.block kc LT.out); go_simp; try with_reducible rfl)); simp only [Act.put, List.setIfInBounds_toArray, List.set_cons_zero, List.set_cons_succ])
    (refine seq_pure (v := ?_) (by rfl) ?_ ?_; rotate_left; (· (intro w' hS; obtain ⟨c1, c2, c3, c4, c5, c6, c7⟩ := KC.out w' (hS.block kc LT.out); go_simp; try with_reducible rfl)); simp only [Act.put, List.setIfInBounds_toArray, List.set_cons_zero, List.set_cons_succ])
    (refine seq_pure (v := ?_) (by rfl) ?_ ?_; rotate_left; (· (intro w' hS; obtain ⟨c1, c2, c3, c4, c5, c6, c7⟩ := KC.out w' (hS.block kc LT.out); go_simp; try with_reducible rfl)); simp only [Act.put, List.setIfInBounds_toArray, List.set_cons_zero, List.set_cons_succ])
    refine seq_nil ?_
    intro w1 b1
    have B1 := Lib.hid b1
    clear b1
    obtain ⟨c1, c2, c3, c4, c5, c6, c7⟩ := KC.out w1 (B1.out.block kc LT.out)
    go_upto_region 5 with (fail)
    clear c1 c2 c3 c4 c5 c6 c7
    have s0 : Below w.heap.size w w1.drew := B1.out.drew
    refine wp_region_steady (fun X => Below w.heap.size w X) (by kernel_rfl) (by kernel_rfl) s0 ?_
    clear s0
    (refine seq_pure (v := ?_) (by rfl) ?_ ?_; rotate_left; (· (intro w' hS; obtain ⟨c1, c2, c3, c4, c5, c6, c7⟩ := KC.out w' (hS.block kc LT.out); go_simp; try with_reducible rfl)); simp only [Act.put, List.setIfInBounds_toArray, List.set_cons_zero, List.set_cons_succ])
    (refine seq_pure (v := ?_) (by rfl) ?_ ?_; rotate_left; (· (intro w' hS; obtain ⟨c1, c2, c3, c4, c5, c6, c7⟩ := KC.out w' (hS.block kc LT.out); go_simp; try with_reducible rfl)); simp only [Act.put, List.setIfInBounds_toArray, List.set_cons_zero, List.set_cons_succ])
    (refine seq_pure (v := ?_) (by rfl) ?_ ?_; rotate_left; (· (intro w' hS; obtain ⟨c1, c2, c3, c4, c5, c6, c7⟩ := KC.out w' (hS.block kc LT.out); go_simp; try with_reducible rfl)); simp only [Act.put, List.setIfInBounds_toArray, List.set_cons_zero, List.set_cons_succ])
    (refine seq_pure (v := ?_) (by rfl) ?_ ?_; rotate_left; (· (intro w' hS; obtain ⟨c1, c2, c3, c4, c5, c6, c7⟩ := KC.out w' (hS.block kc LT.out); go_simp; try with_reducible rfl)); simp only [Act.put, List.setIfInBounds_toArray, List.set_cons_zero, List.set_cons_succ])
    (refine seq_pure (v := ?_) (by rfl) ?_ ?_; rotate_left; (· (intro w' hS; obtain ⟨c1, c2, c3, c4, c5, c6, c7⟩ := KC.out w' (hS.block kc LT.out); go_simp; try with_reducible rfl)); simp only [Act.put, List.setIfInBounds_toArray, List.set_cons_zero, List.set_cons_succ])
    (refine seq_pure (v := ?_) (by rfl) ?_ ?_; rotate_left; (· (intro w' hS; obtain ⟨c1, c2, c3, c4, c5, c6, c7⟩ := KC.out w' (hS.block kc LT.out); go_simp; try with_reducible rfl)); simp only [Act.put, List.setIfInBounds_toArray, List.set_cons_zero, List.set_cons_succ])
    (refine seq_pure (v := ?_) (by rfl) ?_ ?_; rotate_left; (· (intro w' hS; obtain ⟨c1, c2, c3, c4, c5, c6, c7⟩ := KC.out w' (hS.block kc LT.out); go_simp; try with_reducible rfl)); simp only [Act.put, List.setIfInBounds_toArray, List.set_cons_zero, List.set_cons_succ])
    (refine seq_pure (v := ?_) (by rfl) ?_ ?_; rotate_left; (· (intro w' hS; obtain ⟨c1, c2, c3, c4, c5, c6, c7⟩ := KC.out w' (hS.block kc LT.out); go_simp; try with_reducible rfl)); simp only [Act.put, List.setIfInBounds_toArray, List.set_cons_zero, List.set_cons_succ])
    (refine seq_pure (v := ?_) (by rfl) ?_ ?_; rotate_left; (· (intro w' hS; obtain ⟨c1, c2, c3, c4, c5, c6, c7⟩ := KC.out w' (hS.block kc LT.out); go_simp; try with_reducible rfl)); simp only [Act.put, List.setIfInBounds_toArray, List.set_cons_zero, List.set_cons_succ])
    (refine seq_pure (v := ?_) (by rfl) ?_ ?_; rotate_left; (· (intro w' hS; obtain ⟨c1, c2, c3, c4, c5, c6, c7⟩ := KC.out w' (hS.block kc LT.out); go_simp; try with_reducible rfl)); simp only [Act.put, List.setIfInBounds_toArray, List.set_cons_zero, List.set_cons_succ])
    (refine seq_pure (v := ?_) (by rfl) ?_ ?_; rotate_left; (· (intro w' hS; obtain ⟨c1, c2, c3, c4, c5, c6, c7⟩ := KC.out w' (hS.block kc LT.out); go_simp; try with_reducible rfl)); simp only [Act.put, List.setIfInBounds_toArray, List.set_cons_zero, List.set_cons_succ])
    refine seq_nil ?_
    intro w2 b1
    have B2 := Lib.hid b1
    clear b1
    obtain ⟨c1, c2, c3, c4, c5, c6, c7⟩ := KC.out w2 (B2.out.block kc LT.out)
    obtain ⟨c1, c2, c3, c4, c5, c6, c7⟩ := KC.out w2 (B2.out.block kc LT.out)
    have f4 := (HB.out.below B2.out LT.out).frozen 4
    go_upto_region 16 with (fail)
    have c4 : (w2.setCell ⟨kc, 4, none⟩ (.int .u64 (n1 : Int))).cell? ⟨kc, 4, none⟩ = some (.int .u64 (n1 : Int)) := ((HB.out.below B2.out LT.out).put 4 (.int .u64 (n1 : Int))).cell 4
    go_wp2
    go_ret2
    exact ⟨rfl, by have h9 := LAST.out w2 L k G S T D Z ⟨tt, bb, rr, nx, false⟩ N2.out (by omega) (QT.out.grow B2.out) (Sub3.same _ _ _ _) (Mv.of HNW.out B2.out); rw [show (((Cn.mk tt bb rr nx false).nxt : Int) + 1) = (n1 : Int) by rw [N1.out]; rfl] at h9; exact h9⟩
  have y2 : (rr : Int) ≤ (nx : Int) := by omega
  have hr5 : rr + bb < 18446744073709551616 := by omega
  obtain ⟨rm, hrm⟩ : ∃ rm, rm = rr + bb := ⟨_, rfl⟩
  have v1 : IntKind.u64.wrap ((rr : Int) + (bb : Int)) = (rm : Int) := by rw [IntKind.wrap_u64]; omega
  have v2 : ((rr : Int) + (bb : Int)) % 18446744073709551616 = (rm : Int) := by omega
  obtain ⟨y, hy⟩ : ∃ y, y = Cn.more ⟨tt, bb, rr, nx, false⟩ := ⟨_, rfl⟩
  have hyc : y = ⟨tt, bb, if tt < rm then tt else rm, nx, false⟩ := by rw [hy, hrm]; rfl
  have hmy : y.May hd.length := by rw [hy]; exact Cn.more_may ok.may
  have hfy : y.Fit := by rw [hy]; exact Cn.more_fit ok
  obtain ⟨row, hrow⟩ : ∃ r, r = y.row hd := ⟨_, rfl⟩
  obtain ⟨lr, hlr⟩ : ∃ l, l = row.length := ⟨_, rfl⟩
  obtain ⟨sc, hsc⟩ : ∃ s, s = Z.saveC D row := ⟨_, rfl⟩
  have e1 : Cn.takeC ⟨tt, bb, rr, nx, false⟩ hd Z D = sc := by simp only [Cn.takeC]; rw [if_neg (by simp), if_neg q1, if_pos q2, ← hy, ← hrow, ← hsc]
  have e2 : Cn.must ⟨tt, bb, rr, nx, false⟩ = true := by simp [Cn.must, q2]; omega
  rw [show Cn.takeN ⟨tt, bb, rr, nx, false⟩ hd Z D = if sc = 0 then nx else 0 by rw [Cn.takeN, e1], show Cn.takeD ⟨tt, bb, rr, nx, false⟩ hd Z D = Z.saveD D row by rw [Cn.takeD, e2, if_pos rfl, ← hy, ← hrow], show Cn.takeZ ⟨tt, bb, rr, nx, false⟩ hd Z D = Z.save D row by rw [Cn.takeZ, e2, if_pos rfl, ← hy, ← hrow], show Cn.take ⟨tt, bb, rr, nx, false⟩ hd Z D = if sc = 0 then y.next else ⟨tt, bb, rr, nx, false⟩ by rw [Cn.take, e1, e2, if_pos rfl, ← hy], e1]
  obtain ⟨tn, htn⟩ : ∃ m, m = (if sc = 0 then nx else 0) := ⟨_, rfl⟩
  obtain ⟨xn, hxn⟩ : ∃ m, m = (if sc = 0 then y.next else (⟨tt, bb, rr, nx, false⟩ : Cn)) := ⟨_, rfl⟩
  rw [← htn, ← hxn]
  have TN := Lib.hid htn
  have XN := Lib.hid hxn
  clear htn hxn
  have CB := Lib.hid (show ∀ X, Below w.heap.size w X → Calls Tryz.prog 39 #[.agg y.cells, .slice A hd.length c] X fun e w' => ∃ A' c', e = .returned (.tuple #[.slice A' lr c', .int .i64 0]) ∧ Rd w' A' lr c' row ∧ (∀ a, 0 < lr → A' = some a → w.heap.size ≤ a.block) ∧ Below X.heap.size X w' from fun X hX => by
    have h := rbytes21_any y A hd.length c hd X hfy (hr.below hX) (by omega)
    rw [show y.bytesC hd = 0 from if_pos hmy, show y.bytesB hd = row by rw [hrow]; exact if_pos hmy, ← hlr] at h
    exact h.mono fun e w' ⟨A', c', h1, h2, h3⟩ => ⟨A', c', h1, Rd.own h2, fun a h0 ha => by obtain ⟨g, hg, hg2⟩ := own_blk h2 h0; rw [hg] at ha; injection ha with ha; rw [← ha]; exact Nat.le_trans hX.size hg2, h3⟩)
  have CS := Lib.hid (show ∀ X A' c', Below w.heap.size w X → Rd X A' lr c' row → (∀ a, 0 < lr → A' = some a → w.heap.size ≤ a.block) → Calls Tryz.prog 40 #[.pointer (some ⟨q, 0, none⟩), .slice A' lr c'] X fun e w' => e = .returned (.int .i64 (sc : Int)) ∧ (∃ L' k' G' S' T', k' ≤ k + 1 ∧ Qc N w' h q kc L' k' (Z.saveD D row) (Z.save D row) ⟨tt, bb, rr, nx, false⟩ hd G' S' T' K ∧ Sub3 G S T G' S' T' w.heap.size ∧ Mv N (Or3 G (fun x => x = q) T) w w') ∧ (∀ b, w.heap.size ≤ b → b < X.heap.size → w'.heap[b]? = X.heap[b]?) from fun X A' c' hX hR hA => by
    have tX := t.grow hX
    have hlt : ∀ b, Or3 G (fun x => x = q) T b → b < w.heap.size := fun b hb => by
      rcases hb with e | e | e
      · exact (t.qs.lt b (.inl e)).2
      · have e' : b = q := e; rw [e']; exact t.qs.rz.lt2
      · exact (t.qs.lt b (.inr (.inr e))).2
    have h := rsave20_any N X h q L k D Z G S T tX.qs A' lr c' row hR (fun a h0 ha hO => by have := hA a h0 ha; have := hlt _ hO; omega) hc hk
    rw [← hsc] at h
    exact h.mono fun e w' p => by
      obtain ⟨h1, L', k', G', S', T', h2, h3, h4, h5⟩ := tX.saved p
      exact ⟨h1, ⟨L', k', G', S', T', h2, h3, Sub3.mono h4 hX.size, (Mv.of hNw hX).trans h5 fun b hb => .inl hb⟩, fun b h6 h7 => h5.same b h7 fun hO => by have := hlt b hO; omega⟩)
  obtain ⟨cap, hcap⟩ : ∃ m, m = if tt < rm then tt else rm := ⟨_, rfl⟩
  rw [← hcap] at hyc
  rw [hyc] at CB
  unfold Cn.cells at CB
  simp only at CB
  have HYC := Lib.hid hyc
  obtain ⟨n, hn⟩ : ∃ n, n = hd.length := ⟨_, rfl⟩
  rw [← hn] at CB KC
  clear hn ok hc hk hb hr hi hm hle e1 e2 hr5 hrm hy hyc hmy hfy hrow hlr hsc q1 q2 hn1 hn2 t hNw
  obtain ⟨c1, c2, c3, c4, c5, c6, c7⟩ := KC.out w rfl
  go_enter Tryz.func14, Tryz.ntmps14
  go_upto_region 3 with (fail)
  clear c1 c2 c3 c4 c5 c6 c7
  have s0 : Below w.heap.size w w.drew := (Below.refl _ _).drew
  refine wp_region_steady (fun X => Below w.heap.size w X) (by kernel_rfl) (by kernel_rfl) s0 ?_
  clear s0
  (refine seq_pure (v := ?_) (by rfl) ?_ ?_; rotate_left; (· (intro w' hS; obtain ⟨c1, c2, c3, c4, c5, c6, c7⟩ := KC.out w' (hS.block kc LT.out); go_simp; try with_reducible rfl)); simp only [Act.put, List.setIfInBounds_toArray, List.set_cons_zero, List.set_cons_succ])
  (refine seq_pure (v := ?_) (by rfl) ?_ ?_; rotate_left; (· (intro w' hS; obtain ⟨c1, c2, c3, c4, c5, c6, c7⟩ := KC.out w' (hS.block kc LT.out); go_simp; try with_reducible rfl)); simp only [Act.put, List.setIfInBounds_toArray, List.set_cons_zero, List.set_cons_succ])
  (refine seq_pure (v := ?_) (by rfl) ?_ ?_; rotate_left; (· (intro w' hS; obtain ⟨c1, c2, c3, c4, c5, c6, c7⟩ := KC.out w' (hS.block kc LT.out); go_simp; try with_reducible rfl)); simp only [Act.put, List.setIfInBounds_toArray, List.set_cons_zero, List.set_cons_succ])
  (refine seq_pure (v := ?_) (by rfl) ?_ ?_; rotate_left; (· (intro w' hS; obtain ⟨c1, c2, c3, c4, c5, c6, c7⟩ := KC.out w' (hS.block kc LT.out); go_simp; try with_reducible rfl)); simp only [Act.put, List.setIfInBounds_toArray, List.set_cons_zero, List.set_cons_succ])
  (refine seq_pure (v := ?_) (by rfl) ?_ ?_; rotate_left; (· (intro w' hS; obtain ⟨c1, c2, c3, c4, c5, c6, c7⟩ := KC.out w' (hS.block kc LT.out); go_simp; try with_reducible rfl)); simp only [Act.put, List.setIfInBounds_toArray, List.set_cons_zero, List.set_cons_succ])
  (refine seq_pure (v := ?_) (by rfl) ?_ ?_; rotate_left; (· (intro w' hS; obtain ⟨c1, c2, c3, c4, c5, c6, c7⟩ := KC.out w' (hS.block kc LT.out); go_simp; try with_reducible rfl)); simp only [Act.put, List.setIfInBounds_toArray, List.set_cons_zero, List.set_cons_succ])
  (refine seq_pure (v := ?_) (by rfl) ?_ ?_; rotate_left; (· (intro w' hS; obtain ⟨c1, c2, c3, c4, c5, c6, c7⟩ := KC.out w' (hS.block kc LT.out); go_simp; try with_reducible rfl)); simp only [Act.put, List.setIfInBounds_toArray, List.set_cons_zero, List.set_cons_succ])
  (refine seq_pure (v := ?_) (by rfl) ?_ ?_; rotate_left; (· (intro w' hS; obtain ⟨c1, c2, c3, c4, c5, c6, c7⟩ := KC.out w' (hS.block kc LT.out); go_simp; try with_reducible rfl)); simp only [Act.put, List.setIfInBounds_toArray, List.set_cons_zero, List.set_cons_succ])
  (refine seq_pure (v := ?_) (by rfl) ?_ ?_; rotate_left; (· (intro w' hS; obtain ⟨c1, c2, c3, c4, c5, c6, c7⟩ := KC.out w' (hS.block kc LT.out); go_simp; try with_reducible rfl)); simp only [Act.put, List.setIfInBounds_toArray, List.set_cons_zero, List.set_cons_succ])
  (refine seq_pure (v := ?_) (by rfl) ?_ ?_; rotate_left; (· (intro w' hS; obtain ⟨c1, c2, c3, c4, c5, c6, c7⟩ := KC.out w' (hS.block kc LT.out); go_simp; try with_reducible rfl)); simp only [Act.put, List.setIfInBounds_toArray, List.set_cons_zero, List.set_cons_succ])
  (refine seq_pure (v := ?_) (by rfl) ?_ ?_; rotate_left; (· (intro w' hS; obtain ⟨c1, c2, c3, c4, c5, c6, c7⟩ := KC.out w' (hS.block kc LT.out); go_simp; try with_reducible rfl)); simp only [Act.put, List.setIfInBounds_toArray, List.set_cons_zero, List.set_cons_succ])
  refine seq_nil ?_
  intro w1 b1
  have B1 := Lib.hid b1
  clear b1
  obtain ⟨c1, c2, c3, c4, c5, c6, c7⟩ := KC.out w1 (B1.out.block kc LT.out)
  go_upto_region 5 with (fail)
  clear c1 c2 c3 c4 c5 c6 c7
  have s0 : Below w.heap.size w w1.drew := B1.out.drew
  refine wp_region_steady (fun X => Below w.heap.size w X) (by kernel_rfl) (by kernel_rfl) s0 ?_
  clear s0
  (refine seq_pure (v := ?_) (by rfl) ?_ ?_; rotate_left; (· (intro w' hS; obtain ⟨c1, c2, c3, c4, c5, c6, c7⟩ := KC.out w' (hS.block kc LT.out); go_simp; try with_reducible rfl)); simp only [Act.put, List.setIfInBounds_toArray, List.set_cons_zero, List.set_cons_succ])
  (refine seq_pure (v := ?_) (by rfl) ?_ ?_; rotate_left; (· (intro w' hS; obtain ⟨c1, c2, c3, c4, c5, c6, c7⟩ := KC.out w' (hS.block kc LT.out); go_simp; try with_reducible rfl)); simp only [Act.put, List.setIfInBounds_toArray, List.set_cons_zero, List.set_cons_succ])
  (refine seq_pure (v := ?_) (by rfl) ?_ ?_; rotate_left; (· (intro w' hS; obtain ⟨c1, c2, c3, c4, c5, c6, c7⟩ := KC.out w' (hS.block kc LT.out); go_simp; try with_reducible rfl)); simp only [Act.put, List.setIfInBounds_toArray, List.set_cons_zero, List.set_cons_succ])
  (refine seq_pure (v := ?_) (by rfl) ?_ ?_; rotate_left; (· (intro w' hS; obtain ⟨c1, c2, c3, c4, c5, c6, c7⟩ := KC.out w' (hS.block kc LT.out); go_simp; try with_reducible rfl)); simp only [Act.put, List.setIfInBounds_toArray, List.set_cons_zero, List.set_cons_succ])
  (refine seq_pure (v := ?_) (by rfl) ?_ ?_; rotate_left; (· (intro w' hS; obtain ⟨c1, c2, c3, c4, c5, c6, c7⟩ := KC.out w' (hS.block kc LT.out); go_simp; try with_reducible rfl)); simp only [Act.put, List.setIfInBounds_toArray, List.set_cons_zero, List.set_cons_succ])
  (refine seq_pure (v := ?_) (by rfl) ?_ ?_; rotate_left; (· (intro w' hS; obtain ⟨c1, c2, c3, c4, c5, c6, c7⟩ := KC.out w' (hS.block kc LT.out); go_simp; try with_reducible rfl)); simp only [Act.put, List.setIfInBounds_toArray, List.set_cons_zero, List.set_cons_succ])
  (refine seq_pure (v := ?_) (by rfl) ?_ ?_; rotate_left; (· (intro w' hS; obtain ⟨c1, c2, c3, c4, c5, c6, c7⟩ := KC.out w' (hS.block kc LT.out); go_simp; try with_reducible rfl)); simp only [Act.put, List.setIfInBounds_toArray, List.set_cons_zero, List.set_cons_succ])
  (refine seq_pure (v := ?_) (by rfl) ?_ ?_; rotate_left; (· (intro w' hS; obtain ⟨c1, c2, c3, c4, c5, c6, c7⟩ := KC.out w' (hS.block kc LT.out); go_simp; try with_reducible rfl)); simp only [Act.put, List.setIfInBounds_toArray, List.set_cons_zero, List.set_cons_succ])
  (refine seq_pure (v := ?_) (by rfl) ?_ ?_; rotate_left; (· (intro w' hS; obtain ⟨c1, c2, c3, c4, c5, c6, c7⟩ := KC.out w' (hS.block kc LT.out); go_simp; try with_reducible rfl)); simp only [Act.put, List.setIfInBounds_toArray, List.set_cons_zero, List.set_cons_succ])
  (refine seq_pure (v := ?_) (by rfl) ?_ ?_; rotate_left; (· (intro w' hS; obtain ⟨c1, c2, c3, c4, c5, c6, c7⟩ := KC.out w' (hS.block kc LT.out); go_simp; try with_reducible rfl)); simp only [Act.put, List.setIfInBounds_toArray, List.set_cons_zero, List.set_cons_succ])
  (refine seq_pure (v := ?_) (by rfl) ?_ ?_; rotate_left; (· (intro w' hS; obtain ⟨c1, c2, c3, c4, c5, c6, c7⟩ := KC.out w' (hS.block kc LT.out); go_simp; try with_reducible rfl)); simp only [Act.put, List.setIfInBounds_toArray, List.set_cons_zero, List.set_cons_succ])
  refine seq_nil ?_
  intro w2 b1
  have B2 := Lib.hid b1
  clear b1
  obtain ⟨c1, c2, c3, c4, c5, c6, c7⟩ := KC.out w2 (B2.out.block kc LT.out)
  obtain ⟨gm, hgm⟩ : ∃ g, g = w2.heap.size := ⟨_, rfl⟩
  obtain ⟨c1, c2, c3, c4, c5, c6, c7⟩ := KC.out w2 (B2.out.block kc LT.out)
  go_upto_region 7 with (fail)
  rw [← hgm]
  have M3 := Lib.hid (show Bk (w2.alloc (.cells #[.int .u64 (tt : Int), .int .u64 (bb : Int), .int .u64 (rr : Int), .int .u64 (nx : Int), .bool false] 46)) gm 46 #[.int .u64 (tt : Int), .int .u64 (bb : Int), .int .u64 (rr : Int), .int .u64 (nx : Int), .bool false] from Bk.newAt _ _ _ _ hgm.symm)
  have B3 := Lib.hid (B2.out.alloc B2.out.size (.cells #[.int .u64 (tt : Int), .int .u64 (bb : Int), .int .u64 (rr : Int), .int .u64 (nx : Int), .bool false] 46))
  have GM := Lib.hid (show w.heap.size ≤ gm by rw [hgm]; exact B2.out.size)
  clear hgm c1 c2 c3 c4 c5 c6 c7
  generalize w2.alloc (.cells #[.int .u64 (tt : Int), .int .u64 (bb : Int), .int .u64 (rr : Int), .int .u64 (nx : Int), .bool false] 46) = w3 at *
  have NE := Lib.hid (show kc ≠ gm from fun e => by have h1 := LT.out; have h2 := GM.out; rw [e] at h1; omega)
  have KD := Lib.hid (show ∀ X : World, X.heap[kc]? = w.heap[kc]? → X.cell? ⟨kc, 3, none⟩ = some (.int .u64 (rr : Int)) ∧ X.cell? ⟨kc, 2, none⟩ = some (.int .u64 (bb : Int)) from fun X hX => by obtain ⟨c1, c2, c3, c4, c5, c6, c7⟩ := KC.out X hX; exact ⟨c3, c2⟩)
  have j0 : w3.drew.cell? ⟨gm, 2, none⟩ = some (.int .u64 (rr : Int)) := M3.out.drew.cell 2
  have j1 : w3.cell? ⟨gm, 2, none⟩ = some (.int .u64 (rr : Int)) := M3.out.cell 2
  have u0 := M3.out.frozen 2
  have u1 := M3.out.drew.frozen 2
  (go_region_held3 (fun X => X.cell? ⟨kc, 3, none⟩ = some (.int .u64 (rr : Int)) ∧ X.cell? ⟨kc, 2, none⟩ = some (.int .u64 (bb : Int))) (first
    | exact KD.out _ ((Below.heap_setCell _ ⟨gm, 2, none⟩ _ kc NE.out).trans (B3.out.drew.block kc LT.out))
    | exact KD.out _ (B3.out.drew.block kc LT.out)) (fail))
  clear j0 j1 u0 u1
  have M4 := Lib.hid (show Bk ((w3.setCell ⟨gm, 2, none⟩ (.int .u64 (rm : Int))).drew) gm 46 #[.int .u64 (tt : Int), .int .u64 (bb : Int), .int .u64 (rm : Int), .int .u64 (nx : Int), .bool false] from (M3.out.put 2 (.int .u64 (rm : Int))).drew)
  have B4 := Lib.hid (show Below w.heap.size w ((w3.setCell ⟨gm, 2, none⟩ (.int .u64 (rm : Int))).drew) from (B3.out.setCell (p := ⟨gm, 2, none⟩) GM.out _).drew)
  generalize (w3.setCell ⟨gm, 2, none⟩ (.int .u64 (rm : Int))).drew = w4 at *
  have HC := Lib.hid hcap
  clear hcap
  have m0 : w4.cell? ⟨gm, 0, none⟩ = some (.int .u64 (tt : Int)) := M4.out.cell 0
  have m2 : w4.cell? ⟨gm, 2, none⟩ = some (.int .u64 (rm : Int)) := M4.out.cell 2
  have f2 := M4.out.frozen 2
  by_cases z : tt < rm
  · have y3 : (tt : Int) < (rm : Int) := by omega
    go_upto_region 10 with (fail)
    clear m0 m2 f2
    have M5 := Lib.hid (show Bk (w4.setCell ⟨gm, 2, none⟩ (.int .u64 (tt : Int))) gm 46 #[.int .u64 (tt : Int), .int .u64 (bb : Int), .int .u64 (cap : Int), .int .u64 (nx : Int), .bool false] by rw [show cap = tt by rw [HC.out, if_pos z]]; exact M4.out.put 2 (.int .u64 (tt : Int)))
    have B5 := Lib.hid (show Below w.heap.size w (w4.setCell ⟨gm, 2, none⟩ (.int .u64 (tt : Int))) from B4.out.setCell (p := ⟨gm, 2, none⟩) GM.out _)
    generalize w4.setCell ⟨gm, 2, none⟩ (.int .u64 (tt : Int)) = w5 at *
    clear y3 z
    have KS := Lib.hid (show ∀ X : World, X.heap[gm]? = w5.heap[gm]? ∧ X.heap[kc]? = w.heap[kc]? → X.cell? ⟨gm, 0, none⟩ = some (.int .u64 (tt : Int)) ∧ X.cell? ⟨gm, 1, none⟩ = some (.int .u64 (bb : Int)) ∧ X.cell? ⟨gm, 2, none⟩ = some (.int .u64 (cap : Int)) ∧ X.cell? ⟨gm, 3, none⟩ = some (.int .u64 (nx : Int)) ∧ X.cell? ⟨gm, 4, none⟩ = some (.bool false) ∧ X.cell? ⟨kc, 6, none⟩ = some (.slice A n c) from fun X hX => by
      have hq : Bk X gm 46 #[.int .u64 (tt : Int), .int .u64 (bb : Int), .int .u64 (cap : Int), .int .u64 (nx : Int), .bool false] := hX.1.trans M5.out
      obtain ⟨c1, c2, c3, c4, c5, c6, c7⟩ := KC.out X hX.2
      exact ⟨hq.cell 0, hq.cell 1, hq.cell 2, hq.cell 3, hq.cell 4, c6⟩)
    have B5D := Lib.hid (show Below w.heap.size w w5.drew from B5.out.drew)
    have K5 := Lib.hid (show w5.drew.heap[gm]? = w5.heap[gm]? ∧ w5.drew.heap[kc]? = w.heap[kc]? from ⟨(Below.refl w5.heap.size w5).drew.block gm M5.out.lt, B5D.out.block kc LT.out⟩)
    (go_region_held3 (fun X => X.cell? ⟨gm, 0, none⟩ = some (.int .u64 (tt : Int)) ∧ X.cell? ⟨gm, 1, none⟩ = some (.int .u64 (bb : Int)) ∧ X.cell? ⟨gm, 2, none⟩ = some (.int .u64 (cap : Int)) ∧ X.cell? ⟨gm, 3, none⟩ = some (.int .u64 (nx : Int)) ∧ X.cell? ⟨gm, 4, none⟩ = some (.bool false) ∧ X.cell? ⟨kc, 6, none⟩ = some (.slice A n c)) (first
      | exact KS.out _ K6.out
      | exact KS.out _ K5.out) (first
      | (go_at_call 39; ((with_reducible refine (CB.out _ B5D.out).mono ?_); rintro e w6 ⟨A6, c6, rfl, r6, i6, b6⟩; have K6 := Lib.hid (show w6.heap[gm]? = w5.heap[gm]? ∧ w6.heap[kc]? = w.heap[kc]? from ⟨(b6.block gm M5.out.drew.lt).trans K5.out.1, (b6.block kc (Nat.lt_of_lt_of_le LT.out B5D.out.size)).trans K5.out.2⟩); have B6 := Lib.hid (B5D.out.trans (b6.mono B5D.out.size)); have R6 := Lib.hid r6; have I6 := Lib.hid i6; have L6 := Lib.hid (Nat.lt_of_lt_of_le M5.out.drew.lt b6.size); clear r6 i6 b6))
      | fail))
    have M6 := Lib.hid (show Bk w6 gm 46 #[.int .u64 (tt : Int), .int .u64 (bb : Int), .int .u64 (cap : Int), .int .u64 (nx : Int), .bool false] from K6.out.1.trans M5.out)
    obtain ⟨c1, c2, c3, c4, c5, c6', c7⟩ := KC.out w6 K6.out.2
    go_upto_region 12 with (go_at_call 40; ((with_reducible refine (CS.out _ _ _ B6.out R6.out I6.out).mono ?_); rintro e w7 ⟨rfl, p7, s7⟩; have P7 := Lib.hid p7; have S7 := Lib.hid s7; clear p7 s7))
    clear c1 c2 c3 c4 c5 c6' c7
    have M7 := Lib.hid (show Bk w7 gm 46 #[.int .u64 (tt : Int), .int .u64 (bb : Int), .int .u64 (cap : Int), .int .u64 (nx : Int), .bool false] from (S7.out gm GM.out L6.out).trans M6.out)
    by_cases z : sc = 0
    rotate_left
    · have zz : ¬ (sc : Int) = 0 := by omega
      go_wp2
      go_ret2
      obtain ⟨L', k', G', S', T', p1, p2, p3, p4⟩ := P7.out
      exact ⟨by rw [TN.out, if_neg z]; rfl, by rw [XN.out, if_neg z]; exact ⟨L', k', G', S', T', p1, p2, p3, p4.mono fun b hb => .inl hb⟩⟩
    · have TN2 := Lib.hid (show tn = nx by rw [TN.out, if_pos z])
      have XN2 := Lib.hid (show xn = y.next by rw [XN.out, if_pos z])
      subst z
      obtain ⟨L', k', G', S', T', p1, p2, p3, p4⟩ := P7.out
      obtain ⟨A7, c7, hb7, _, _⟩ := p2.rc.ex
      have P1 := Lib.hid p1
      have P2 := Lib.hid p2
      have P3 := Lib.hid p3
      have P4 := Lib.hid p4
      have H7 := Lib.hid hb7
      clear p1 p2 p3 p4 hb7
      have m0 : w7.cell? ⟨gm, 0, none⟩ = some (.int .u64 (tt : Int)) := M7.out.cell 0
      have m1 : w7.cell? ⟨gm, 1, none⟩ = some (.int .u64 (bb : Int)) := M7.out.cell 1
      have m2 : w7.cell? ⟨gm, 2, none⟩ = some (.int .u64 (cap : Int)) := M7.out.cell 2
      have m3 : w7.cell? ⟨gm, 3, none⟩ = some (.int .u64 (nx : Int)) := M7.out.cell 3
      have m4 : w7.cell? ⟨gm, 4, none⟩ = some (.bool false) := M7.out.cell 4
      have c1 : w7.cell? ⟨kc, 1, none⟩ = some (.int .u64 (tt : Int)) := H7.out.cell 1
      have c2 : w7.cell? ⟨kc, 2, none⟩ = some (.int .u64 (bb : Int)) := H7.out.cell 2
      have c3 : w7.cell? ⟨kc, 3, none⟩ = some (.int .u64 (rr : Int)) := H7.out.cell 3
      have c4 : w7.cell? ⟨kc, 4, none⟩ = some (.int .u64 (nx : Int)) := H7.out.cell 4
      have c5 : w7.cell? ⟨kc, 5, none⟩ = some (.bool false) := H7.out.cell 5
      have f1 := H7.out.frozen 1
      have f2 := H7.out.frozen 2
      have f3 := H7.out.frozen 3
      have f4 := H7.out.frozen 4
      have f5 := H7.out.frozen 5
      go_upto_region 15 with (fail)
      clear m0 m1 m2 m3 m4 c1 c2 c3 c4 c5 f1 f2 f3 f4 f5
      have Q8 := Lib.hid (show Qc N (((((w7.setCell ⟨kc, 1, none⟩ (.int .u64 (tt : Int))).setCell ⟨kc, 2, none⟩ (.int .u64 (bb : Int))).setCell ⟨kc, 3, none⟩ (.int .u64 (cap : Int))).setCell ⟨kc, 4, none⟩ (.int .u64 (nx : Int))).setCell ⟨kc, 5, none⟩ (.bool false)) h q kc L' k' (Z.saveD D row) (Z.save D row) ⟨tt, bb, cap, nx, false⟩ hd G' S' T' K ∧ Mv N (fun b => b = kc) w7 (((((w7.setCell ⟨kc, 1, none⟩ (.int .u64 (tt : Int))).setCell ⟨kc, 2, none⟩ (.int .u64 (bb : Int))).setCell ⟨kc, 3, none⟩ (.int .u64 (cap : Int))).setCell ⟨kc, 4, none⟩ (.int .u64 (nx : Int))).setCell ⟨kc, 5, none⟩ (.bool false)) from P2.out.set5 ⟨tt, bb, cap, nx, false⟩)
      generalize (((((w7.setCell ⟨kc, 1, none⟩ (.int .u64 (tt : Int))).setCell ⟨kc, 2, none⟩ (.int .u64 (bb : Int))).setCell ⟨kc, 3, none⟩ (.int .u64 (cap : Int))).setCell ⟨kc, 4, none⟩ (.int .u64 (nx : Int))).setCell ⟨kc, 5, none⟩ (.bool false)) = w8 at *
      obtain ⟨A8, c8, hb8, _, _⟩ := Q8.out.1.rc.ex
      have H8 := Lib.hid hb8
      clear hb8
      have c4 : w8.cell? ⟨kc, 4, none⟩ = some (.int .u64 (nx : Int)) := H8.out.cell 4
      have f4 := H8.out.frozen 4
      go_upto_region 16 with (fail)
      clear c4 f4
      have c4 : (w8.setCell ⟨kc, 4, none⟩ (.int .u64 (n1 : Int))).cell? ⟨kc, 4, none⟩ = some (.int .u64 (n1 : Int)) := (H8.out.put 4 (.int .u64 (n1 : Int))).cell 4
      go_wp2
      go_ret2
      exact ⟨by rw [TN2.out]; rfl, by
        rw [XN2.out, HYC.out]
        have h9 := LAST.out w8 L' k' G' S' T' (Z.saveD D row) (Z.save D row) ⟨tt, bb, cap, nx, false⟩ N2.out P1.out Q8.out.1 P3.out ((P4.out.mono fun b hb => .inl hb).trans Q8.out.2 fun b hb => .inl (.inr hb))
        rw [show (((Cn.mk tt bb cap nx false).nxt : Int) + 1) = (n1 : Int) by rw [N1.out]; rfl] at h9
        exact h9⟩
  · have y3 : ¬ (tt : Int) < (rm : Int) := by omega
    go_upto_region 10 with (fail)
    clear m0 m2 f2
    have M5 := Lib.hid (show Bk w4 gm 46 #[.int .u64 (tt : Int), .int .u64 (bb : Int), .int .u64 (cap : Int), .int .u64 (nx : Int), .bool false] by rw [show cap = rm by rw [HC.out, if_neg z]]; exact M4.out)
    have B5 := B4
    generalize w4 = w5 at *
    clear y3 z
    have KS := Lib.hid (show ∀ X : World, X.heap[gm]? = w5.heap[gm]? ∧ X.heap[kc]? = w.heap[kc]? → X.cell? ⟨gm, 0, none⟩ = some (.int .u64 (tt : Int)) ∧ X.cell? ⟨gm, 1, none⟩ = some (.int .u64 (bb : Int)) ∧ X.cell? ⟨gm, 2, none⟩ = some (.int .u64 (cap : Int)) ∧ X.cell? ⟨gm, 3, none⟩ = some (.int .u64 (nx : Int)) ∧ X.cell? ⟨gm, 4, none⟩ = some (.bool false) ∧ X.cell? ⟨kc, 6, none⟩ = some (.slice A n c) from fun X hX => by
      have hq : Bk X gm 46 #[.int .u64 (tt : Int), .int .u64 (bb : Int), .int .u64 (cap : Int), .int .u64 (nx : Int), .bool false] := hX.1.trans M5.out
      obtain ⟨c1, c2, c3, c4, c5, c6, c7⟩ := KC.out X hX.2
      exact ⟨hq.cell 0, hq.cell 1, hq.cell 2, hq.cell 3, hq.cell 4, c6⟩)
    have B5D := Lib.hid (show Below w.heap.size w w5.drew from B5.out.drew)
    have K5 := Lib.hid (show w5.drew.heap[gm]? = w5.heap[gm]? ∧ w5.drew.heap[kc]? = w.heap[kc]? from ⟨(Below.refl w5.heap.size w5).drew.block gm M5.out.lt, B5D.out.block kc LT.out⟩)
    (go_region_held3 (fun X => X.cell? ⟨gm, 0, none⟩ = some (.int .u64 (tt : Int)) ∧ X.cell? ⟨gm, 1, none⟩ = some (.int .u64 (bb : Int)) ∧ X.cell? ⟨gm, 2, none⟩ = some (.int .u64 (cap : Int)) ∧ X.cell? ⟨gm, 3, none⟩ = some (.int .u64 (nx : Int)) ∧ X.cell? ⟨gm, 4, none⟩ = some (.bool false) ∧ X.cell? ⟨kc, 6, none⟩ = some (.slice A n c)) (first
      | exact KS.out _ K6.out
      | exact KS.out _ K5.out) (first
      | (go_at_call 39; ((with_reducible refine (CB.out _ B5D.out).mono ?_); rintro e w6 ⟨A6, c6, rfl, r6, i6, b6⟩; have K6 := Lib.hid (show w6.heap[gm]? = w5.heap[gm]? ∧ w6.heap[kc]? = w.heap[kc]? from ⟨(b6.block gm M5.out.drew.lt).trans K5.out.1, (b6.block kc (Nat.lt_of_lt_of_le LT.out B5D.out.size)).trans K5.out.2⟩); have B6 := Lib.hid (B5D.out.trans (b6.mono B5D.out.size)); have R6 := Lib.hid r6; have I6 := Lib.hid i6; have L6 := Lib.hid (Nat.lt_of_lt_of_le M5.out.drew.lt b6.size); clear r6 i6 b6))
      | fail))
    have M6 := Lib.hid (show Bk w6 gm 46 #[.int .u64 (tt : Int), .int .u64 (bb : Int), .int .u64 (cap : Int), .int .u64 (nx : Int), .bool false] from K6.out.1.trans M5.out)
    obtain ⟨c1, c2, c3, c4, c5, c6', c7⟩ := KC.out w6 K6.out.2
    go_upto_region 12 with (go_at_call 40; ((with_reducible refine (CS.out _ _ _ B6.out R6.out I6.out).mono ?_); rintro e w7 ⟨rfl, p7, s7⟩; have P7 := Lib.hid p7; have S7 := Lib.hid s7; clear p7 s7))
    clear c1 c2 c3 c4 c5 c6' c7
    have M7 := Lib.hid (show Bk w7 gm 46 #[.int .u64 (tt : Int), .int .u64 (bb : Int), .int .u64 (cap : Int), .int .u64 (nx : Int), .bool false] from (S7.out gm GM.out L6.out).trans M6.out)
    by_cases z : sc = 0
    rotate_left
    · have zz : ¬ (sc : Int) = 0 := by omega
      go_wp2
      go_ret2
      obtain ⟨L', k', G', S', T', p1, p2, p3, p4⟩ := P7.out
      exact ⟨by rw [TN.out, if_neg z]; rfl, by rw [XN.out, if_neg z]; exact ⟨L', k', G', S', T', p1, p2, p3, p4.mono fun b hb => .inl hb⟩⟩
    · have TN2 := Lib.hid (show tn = nx by rw [TN.out, if_pos z])
      have XN2 := Lib.hid (show xn = y.next by rw [XN.out, if_pos z])
      subst z
      obtain ⟨L', k', G', S', T', p1, p2, p3, p4⟩ := P7.out
      obtain ⟨A7, c7, hb7, _, _⟩ := p2.rc.ex
      have P1 := Lib.hid p1
      have P2 := Lib.hid p2
      have P3 := Lib.hid p3
      have P4 := Lib.hid p4
      have H7 := Lib.hid hb7
      clear p1 p2 p3 p4 hb7
      have m0 : w7.cell? ⟨gm, 0, none⟩ = some (.int .u64 (tt : Int)) := M7.out.cell 0
      have m1 : w7.cell? ⟨gm, 1, none⟩ = some (.int .u64 (bb : Int)) := M7.out.cell 1
      have m2 : w7.cell? ⟨gm, 2, none⟩ = some (.int .u64 (cap : Int)) := M7.out.cell 2
      have m3 : w7.cell? ⟨gm, 3, none⟩ = some (.int .u64 (nx : Int)) := M7.out.cell 3
      have m4 : w7.cell? ⟨gm, 4, none⟩ = some (.bool false) := M7.out.cell 4
      have c1 : w7.cell? ⟨kc, 1, none⟩ = some (.int .u64 (tt : Int)) := H7.out.cell 1
      have c2 : w7.cell? ⟨kc, 2, none⟩ = some (.int .u64 (bb : Int)) := H7.out.cell 2
      have c3 : w7.cell? ⟨kc, 3, none⟩ = some (.int .u64 (rr : Int)) := H7.out.cell 3
      have c4 : w7.cell? ⟨kc, 4, none⟩ = some (.int .u64 (nx : Int)) := H7.out.cell 4
      have c5 : w7.cell? ⟨kc, 5, none⟩ = some (.bool false) := H7.out.cell 5
      have f1 := H7.out.frozen 1
      have f2 := H7.out.frozen 2
      have f3 := H7.out.frozen 3
      have f4 := H7.out.frozen 4
      have f5 := H7.out.frozen 5
      go_upto_region 15 with (fail)
      clear m0 m1 m2 m3 m4 c1 c2 c3 c4 c5 f1 f2 f3 f4 f5
      have Q8 := Lib.hid (show Qc N (((((w7.setCell ⟨kc, 1, none⟩ (.int .u64 (tt : Int))).setCell ⟨kc, 2, none⟩ (.int .u64 (bb : Int))).setCell ⟨kc, 3, none⟩ (.int .u64 (cap : Int))).setCell ⟨kc, 4, none⟩ (.int .u64 (nx : Int))).setCell ⟨kc, 5, none⟩ (.bool false)) h q kc L' k' (Z.saveD D row) (Z.save D row) ⟨tt, bb, cap, nx, false⟩ hd G' S' T' K ∧ Mv N (fun b => b = kc) w7 (((((w7.setCell ⟨kc, 1, none⟩ (.int .u64 (tt : Int))).setCell ⟨kc, 2, none⟩ (.int .u64 (bb : Int))).setCell ⟨kc, 3, none⟩ (.int .u64 (cap : Int))).setCell ⟨kc, 4, none⟩ (.int .u64 (nx : Int))).setCell ⟨kc, 5, none⟩ (.bool false)) from P2.out.set5 ⟨tt, bb, cap, nx, false⟩)
      generalize (((((w7.setCell ⟨kc, 1, none⟩ (.int .u64 (tt : Int))).setCell ⟨kc, 2, none⟩ (.int .u64 (bb : Int))).setCell ⟨kc, 3, none⟩ (.int .u64 (cap : Int))).setCell ⟨kc, 4, none⟩ (.int .u64 (nx : Int))).setCell ⟨kc, 5, none⟩ (.bool false)) = w8 at *
      obtain ⟨A8, c8, hb8, _, _⟩ := Q8.out.1.rc.ex
      have H8 := Lib.hid hb8
      clear hb8
      have c4 : w8.cell? ⟨kc, 4, none⟩ = some (.int .u64 (nx : Int)) := H8.out.cell 4
      have f4 := H8.out.frozen 4
      go_upto_region 16 with (fail)
      clear c4 f4
      have c4 : (w8.setCell ⟨kc, 4, none⟩ (.int .u64 (n1 : Int))).cell? ⟨kc, 4, none⟩ = some (.int .u64 (n1 : Int)) := (H8.out.put 4 (.int .u64 (n1 : Int))).cell 4
      go_wp2
      go_ret2
      exact ⟨by rw [TN2.out]; rfl, by
        rw [XN2.out, HYC.out]
        have h9 := LAST.out w8 L' k' G' S' T' (Z.saveD D row) (Z.save D row) ⟨tt, bb, cap, nx, false⟩ N2.out P1.out Q8.out.1 P3.out ((P4.out.mono fun b hb => .inl hb).trans Q8.out.2 fun b hb => .inl (.inr hb))
        rw [show (((Cn.mk tt bb cap nx false).nxt : Int) + 1) = (n1 : Int) by rw [N1.out]; rfl] at h9
        exact h9⟩
end Go.Proofs.YtnoflgkjdibblaaGreatDoor.S21
