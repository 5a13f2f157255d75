/-
  Texts put together: Same, Dk2, Dk3, Dk4, Step, Tool, Dk5. No statement is proved here.
-/
import Derived.Test.YtdbamdbdogdpjaaGreatDoorWa02
import Derived.RegionTactic
import Derived.ChangeAlike
import Derived.Deep.Draws
import Derived.Test.YtdbamdbdogdpjaaGreatDoorWa01
import Derived.Deep.Cut
import Derived.Deep.RegionHeld3
import Derived.Deep.DrawnRows
import Derived.Deep.AppendLies
import Derived.Lib.SlBytesConst

/-
  What the document's own Same does.
-/
namespace Go.Proofs.YtdbamdbdogdpjaaGreatDoor
set_option linter.unusedSimpArgs false
set_option linter.unusedVariables false
set_option maxRecDepth 1024
open Go.RowKit

def sameB (xs ys : List UInt8) : Bool := xs == ys
theorem sameB_refl (xs : List UInt8) : sameB xs xs = true := by simp [sameB]
theorem take_next {xs ys : List UInt8} {k : Nat} (h : xs.take k = ys.take k) (hx : k < xs.length) (hy : k < ys.length) (he : xs[k]?.getD 0 = ys[k]?.getD 0) : xs.take (k + 1) = ys.take (k + 1) := by
  rw [List.take_succ_eq_append_getElem hx, List.take_succ_eq_append_getElem hy, h]
  simp [hx, hy] at he
  rw [he]

set_option maxHeartbeats 1000000 in
theorem rsame_any (A A' : Option Addr) (n c n' c' : Nat) (xs ys : List UInt8) (w : World) (h1 : Rd w A n c xs) (h2 : Rd w A' n' c' ys) :
    Calls Tryz.prog 14 #[.slice A n c, .slice A' n' c'] w fun e w' => e = .returned (.bool (sameB xs ys)) ∧ ∃ q, w' = w.drewN q := by
  have l1 : n ≤ maxLen := Nat.le_trans h1.cap h1.max
  have l2 : n' ≤ maxLen := Nat.le_trans h2.cap h2.max
  unfold maxLen at l1 l2
  have e1 := h1.len
  have e2 := h2.len
  by_cases hnn : n = n'
  · subst hnn
    have E1 := Lib.hid e1
    have E2 := Lib.hid e2
    clear e1 e2
    go_enter Tryz.func14, Tryz.ntmps14
    go_wp2
    go_loopw [5] (fun i wr => ∃ k q : Nat, k ≤ n ∧ i = .int .i64 (k : Int) ∧ wr = w.drewN q ∧ xs.take k = ys.take k) (fun i _ => n - (intOf i).toNat)
    case atStart => exact ⟨0, 0, Nat.zero_le _, rfl, rfl, rfl⟩
    case round =>
      obtain ⟨k, q, hk, rfl, rfl, hpre⟩ := hrel
      have HP := Lib.hid hpre
      clear hpre
      by_cases hlt : k < n
      · obtain ⟨b1, o1, rfl, hb1, hc1⟩ := h1.at_ (by omega)
        obtain ⟨b2, o2, rfl, hb2, hc2⟩ := h2.at_ (by omega)
        have g1 := hc1 k hlt
        have g2 := hc2 k hlt
        have hki : (k : Int) < n := by omega
        simp only [List.getD_eq_getElem?_getD] at g1 g2
        clear hc1 hc2
        by_cases heq : xs[k]?.getD 0 = ys[k]?.getD 0
        · have HE := Lib.hid heq
          have ht : (((xs[k]?.getD 0).toNat : Int) != ((ys[k]?.getD 0).toNat : Int)) = false := by rw [heq]; simp
          clear heq
          go_wp2
          go_region
          go_wp2
          go_roundw
          case rel => exact ⟨k + 1, q + 1, by omega, by go_num, rfl, take_next HP.out (by have := E1.out; omega) (by have := E2.out; omega) HE.out⟩
          case measure => simp [intOf]; omega
        · have hne : sameB xs ys = false := by
            simp only [sameB, beq_eq_false_iff_ne]
            intro e; rw [e] at heq; exact heq rfl
          have ht : (((xs[k]?.getD 0).toNat : Int) != ((ys[k]?.getD 0).toNat : Int)) = true := by
            simp only [bne_iff_ne, ne_eq]
            intro e
            exact heq (UInt8.toNat_inj.1 (by omega))
          have HN := Lib.hid hne
          clear heq hne
          go_wp2
          go_region
          go_wp2
          go_ret
          exact ⟨by rw [HN.out]; rfl, q + 1, rfl⟩
      · obtain rfl : k = n := by omega
        have hs : sameB xs ys = true := by
          have hp := HP.out
          rw [List.take_of_length_le (by have := E1.out; omega), List.take_of_length_le (by have := E2.out; omega)] at hp
          rw [hp]; exact sameB_refl _
        have HN := Lib.hid hs
        clear hs
        go_wp2
        go_ret
        exact ⟨by rw [HN.out]; rfl, q, rfl⟩
  · have hne : sameB xs ys = false := by
      simp only [sameB, beq_eq_false_iff_ne]
      intro e; rw [e] at e1; omega
    have HN := Lib.hid hne
    have ht : ((n : Int) != (n' : Int)) = true := by simp; omega
    clear hne e1 e2 hnn
    go_enter Tryz.func14, Tryz.ntmps14
    go_wp2
    go_ret
    exact ⟨by rw [HN.out]; rfl, 0, rfl⟩

theorem rsame_true (A A' : Option Addr) (n c n' c' : Nat) (xs ys : List UInt8) (w : World) (h1 : Rd w A n c xs) (h2 : Rd w A' n' c' ys) (he : xs = ys) :
    Calls Tryz.prog 14 #[.slice A n c, .slice A' n' c'] w fun e w' => e = .returned (.bool true) ∧ Below w.heap.size w w' :=
  (rsame_any A A' n c n' c' xs ys w h1 h2).mono fun e w' ⟨h, q, hq⟩ => ⟨by rw [h, he, sameB_refl], by rw [hq]; exact ⟨rfl, rfl, rfl, Nat.le_refl _, fun _ _ => rfl⟩⟩
theorem own_lit_u8 (w : World) (B : Nat) (xs : List UInt8) (hB : B ≤ w.heap.size) (hm : xs.length ≤ maxLen) :
    (w.alloc (.cells (bv xs).toArray 5)).ownsRow B 5 1 (.slice (some ⟨w.heap.size, 0, none⟩) xs.length xs.length) xs.length (bv xs) := by
  have := World.ownsRow_lit (base := B) (e := 5) (size := 1) w (bv xs).toArray xs.length hB hm (by simp [bv_length])
  simpa using this
theorem rd_lit (w : World) (vs : Array Value) (xs : List UInt8) (h : vs.toList = bv xs) (hm : xs.length ≤ maxLen) (b : Nat) (hb : w.heap.size = b) : Rd (w.alloc (.cells vs 5)) (some ⟨b, 0, none⟩) xs.length xs.length xs := by
  subst hb
  obtain ⟨vs⟩ := vs
  simp only at h
  subst h
  exact Rd.of_bk (Bk.newAt _ _ _ _ rfl) rfl (Nat.le_refl _) hm fun j hj => by rw [Nat.zero_add]; exact bv_getElem? _ _ hj
end Go.Proofs.YtdbamdbdogdpjaaGreatDoor

/-
  What the calls of package disk are to do, as one structure; what a call on a disk may touch. No statement is proved here.
-/
namespace Go.Proofs.YtdbamdbdogdpjaaGreatDoor.S19
set_option linter.unusedSimpArgs false
set_option linter.unusedVariables false
open Go.RowKit

/-- What a call on something that lies in the blocks of F may touch: these, and new ones; what lay below N stays. -/
structure Mv (N : Nat) (F : Nat → Prop) (w w' : World) : Prop where
  bel : Below N w w'
  same : ∀ b, b < w.heap.size → ¬ F b → w'.heap[b]? = w.heap[b]?
section
variable {N : Nat} {F F' : Nat → Prop} {w w' w'' : World}
theorem Mv.refl (N : Nat) (F : Nat → Prop) (w : World) : Mv N F w w := ⟨Below.refl _ _, fun _ _ _ => rfl⟩
theorem Mv.trans (h : Mv N F w w') (k : Mv N F' w' w'') (hF : ∀ b, F' b → F b ∨ w.heap.size ≤ b) : Mv N F w w'' :=
  ⟨h.bel.trans k.bel, fun b h1 h2 => (k.same b (Nat.lt_of_lt_of_le h1 h.bel.size) fun e => (hF b e).elim h2 fun e => by omega).trans (h.same b h1 h2)⟩
theorem Mv.of (hN : N ≤ w.heap.size) (h : Below w.heap.size w w') : Mv N F w w' := ⟨h.mono hN, fun b h1 _ => h.block b h1⟩
theorem Mv.size (h : Mv N F w w') : w.heap.size ≤ w'.heap.size := h.bel.size
theorem Mv.mono (h : Mv N F w w') (hF : ∀ b, F b → F' b) : Mv N F' w w' := ⟨h.bel, fun b h1 h2 => h.same b h1 fun e => h2 (hF b e)⟩
theorem Mv.rd (h : Mv N F w w') {A : Option Addr} {m c : Nat} {xs : List UInt8} (hr : Rd w A m c xs) (ha : ∀ a, 0 < m → A = some a → ¬ F a.block) : Rd w' A m c xs := by
  refine ⟨hr.len, hr.cap, hr.max, hr.nil, fun hn => ?_⟩
  obtain ⟨b, off, rfl, hb, hc⟩ := hr.at_ hn
  exact ⟨b, off, rfl, Nat.lt_of_lt_of_le hb h.size, fun j hj => (World.cell?_of_block (a := ⟨b, off + j, none⟩) (h.same b hb (ha _ hn rfl))).trans (hc j hj)⟩
/-- A row below N. -/
theorem Mv.rdN (h : Mv N F w w') {w0 : World} (hN : w0.heap.size = N) (h0 : Below N w0 w) {A : Option Addr} {m c : Nat} {xs : List UInt8} (hr : Rd w0 A m c xs) : Rd w' A m c xs :=
  hr.below (by rw [hN]; exact h0.trans h.bel)
theorem Mv.bk (h : Mv N F w w') {g : Nat} {t : TypeId} {cs : Array Value} (hb : Bk w g t cs) (hg : ¬ F g) : Bk w' g t cs := (h.same _ hb.lt hg).trans hb
end

/-- A row of whole numbers. -/
structure RI (w : World) (k : IntKind) (A : Option Addr) (n c : Nat) (xs : List Int) : Prop where
  len : xs.length = n
  cap : n ≤ c
  max : c ≤ maxLen
  nil : A = none → c = 0
  at_ : 0 < n → ∃ b off, A = some ⟨b, off, none⟩ ∧ b < w.heap.size ∧ ∀ j, j < n → w.cell? ⟨b, off + j, none⟩ = some (.int k (xs.getD j 0))
theorem RI.nil_ (w : World) (k : IntKind) : RI w k none 0 0 [] := ⟨rfl, Nat.le_refl _, by simp [maxLen], fun _ => rfl, fun h => absurd h (by omega)⟩
theorem RI.keep {w w' : World} {k : IntKind} {A : Option Addr} {n c : Nat} {xs : List Int} (h : RI w k A n c xs) (hs : w.heap.size ≤ w'.heap.size) (hk : ∀ a, 0 < n → A = some a → a.block < w.heap.size → w'.heap[a.block]? = w.heap[a.block]?) : RI w' k A n c xs :=
  ⟨h.len, h.cap, h.max, h.nil, fun hn => by
    obtain ⟨b, off, rfl, hb, hc⟩ := h.at_ hn
    exact ⟨b, off, rfl, Nat.lt_of_lt_of_le hb hs, fun j hj => (World.cell?_of_block (a := ⟨b, off + j, none⟩) (hk ⟨b, off, none⟩ hn rfl hb)).trans (hc j hj)⟩⟩
theorem RI.below {w w' : World} {k : IntKind} {A : Option Addr} {n c : Nat} {xs : List Int} (h : RI w k A n c xs) (hb : Below w.heap.size w w') : RI w' k A n c xs :=
  h.keep hb.size fun a _ _ ha => hb.block _ ha

/-- What a call on a disk comes to: an answer, and the disk. -/
def Post (Is : Nat → World → Nat → Dk → (Nat → Prop) → Prop) (N : Nat) (F : Nat → Prop) (g : Nat) (w : World) (D' : Dk) (v : Value) (e : Ending) (w' : World) : Prop :=
  e = .returned v ∧ ∃ F', Is N w' g D' F' ∧ (∀ b, F' b → F b ∨ w.heap.size ≤ b) ∧ Mv N F w w'
/-- Slices of rows of a disk. -/
structure Rs (w : World) (S : Nat → Prop) (A : Option Addr) (n c : Nat) (xss : List (List UInt8)) : Prop where
  len : xss.length = n
  cap : n ≤ c
  max : c ≤ maxLen
  nil : A = none → c = 0
  at_ : 0 < n → ∃ b off, A = some ⟨b, off, none⟩ ∧ b < w.heap.size ∧ S b ∧ ∀ j, j < n → ∃ A' m c', w.cell? ⟨b, off + j, none⟩ = some (.slice A' m c') ∧ Rd w A' m c' (xss.getD j []) ∧ ∀ a, 0 < m → A' = some a → S a.block
theorem Rs.keep {w w' : World} {S : Nat → Prop} {A : Option Addr} {n c : Nat} {xss : List (List UInt8)} (h : Rs w S A n c xss) (hs : w.heap.size ≤ w'.heap.size) (hk : ∀ b, S b → b < w.heap.size → w'.heap[b]? = w.heap[b]?) : Rs w' S A n c xss :=
  ⟨h.len, h.cap, h.max, h.nil, fun hn => by
    obtain ⟨b, off, rfl, hb, hS, hc⟩ := h.at_ hn
    refine ⟨b, off, rfl, Nat.lt_of_lt_of_le hb hs, hS, fun j hj => ?_⟩
    obtain ⟨A', m, c', h1, h2, h3⟩ := hc j hj
    refine ⟨A', m, c', (World.cell?_of_block (a := ⟨b, off + j, none⟩) (hk b hS hb)).trans h1, ⟨h2.len, h2.cap, h2.max, h2.nil, fun hm => ?_⟩, h3⟩
    obtain ⟨b', off', rfl, hb', hc'⟩ := h2.at_ hm
    exact ⟨b', off', rfl, Nat.lt_of_lt_of_le hb' hs, fun i hi => (World.cell?_of_block (a := ⟨b', off' + i, none⟩) (hk b' (h3 _ hm rfl) hb')).trans (hc' i hi)⟩⟩
structure DC where
  ok : World → Prop
  bel : ∀ {w w' : World}, ok w → Below w.heap.size w w' → ok w'
  Is : Nat → World → Nat → Dk → (Nat → Prop) → Prop
  okD : ∀ {N : Nat} {w : World} {g : Nat} {D : Dk} {F : Nat → Prop}, Is N w g D F → D.Ok
  lt : ∀ {N : Nat} {w : World} {g : Nat} {D : Dk} {F : Nat → Prop}, Is N w g D F → ∀ b, F b → N ≤ b ∧ b < w.heap.size
  keep : ∀ {N : Nat} {w w' : World} {g : Nat} {D : Dk} {F : Nat → Prop}, Is N w g D F → w.heap.size ≤ w'.heap.size → (∀ b, (b < N ∨ F b) → b < w.heap.size → w'.heap[b]? = w.heap[b]?) → Is N w' g D F
  new : ∀ (N : Nat) (w : World) (k : Nat), ok w → N ≤ w.heap.size → 1 ≤ k → k ≤ 256 → Calls Tryz.prog 5 #[.int .i64 (k : Int)] w fun e w' => ∃ g F, e = .returned (.tuple #[.pointer (some ⟨g, 0, none⟩), .int .i64 0]) ∧ Is N w' g (Dk.new k) F ∧ (∀ b, F b → w.heap.size ≤ b) ∧ Below w.heap.size w w'
  newNot : ∀ (w : World) (k : Int), ok w → k < 1 ∨ 256 < k → k < 9223372036854775808 → -9223372036854775808 ≤ k → Calls Tryz.prog 5 #[.int .i64 k] w fun e w' => ∃ v, e = .returned (.tuple #[v, .int .i64 1]) ∧ Below w.heap.size w w'
  plan : ∀ (N : Nat) (w : World) (g : Nat) (D : Dk) (F : Nat → Prop) (A : Option Addr) (n c : Nat) (fs : List Int) (st : Int), ok w → Is N w g D F → RI w .i64 A n c fs → n ≤ 1099511627776 → Calls Tryz.prog 17 #[.pointer (some ⟨g, 0, none⟩), .agg #[.slice A n c, .int .i64 st]] w fun e w' =>
    e = .returned (.tuple #[]) ∧ ∃ F', Is N w' g (D.plan fs st) F' ∧ (∀ b, F' b → F b ∨ w.heap.size ≤ b ∨ N ≤ b ∧ ∃ a, 0 < n ∧ A = some a ∧ a.block = b) ∧ Mv N F w w'
  read : ∀ (N : Nat) (w : World) (g : Nat) (D : Dk) (F : Nat → Prop) (i : Int), ok w → Is N w g D F → Calls Tryz.prog 67 #[.pointer (some ⟨g, 0, none⟩), .int .i64 i] w fun e w' =>
    ∃ A c F', e = .returned (.tuple #[.slice A (D.readB i).length c, .int .i64 (D.readC i : Int)]) ∧ Rd w' A (D.readB i).length c (D.readB i) ∧ (∀ a, 0 < (D.readB i).length → A = some a → w.heap.size ≤ a.block ∧ ¬ F' a.block) ∧ Is N w' g D F' ∧ (∀ b, F' b → F b ∨ w.heap.size ≤ b) ∧ Mv N F w w'
  write : ∀ (N : Nat) (w : World) (g : Nat) (D : Dk) (F : Nat → Prop) (i : Int) (A : Option Addr) (n c : Nat) (b : List UInt8), ok w → Is N w g D F → Rd w A n c b → (∀ a, 0 < n → A = some a → ¬ F a.block) → D.cnt < 1099511627776 → Calls Tryz.prog 18 #[.pointer (some ⟨g, 0, none⟩), .int .i64 i, .slice A n c] w (Post Is N F g w (D.write i b) (.int .i64 (D.writeC i b : Int)))
  flush : ∀ (N : Nat) (w : World) (g : Nat) (D : Dk) (F : Nat → Prop), ok w → Is N w g D F → D.cnt < 1099511627776 → Calls Tryz.prog 35 #[.pointer (some ⟨g, 0, none⟩)] w (Post Is N F g w D.flush (.int .i64 (D.stepC : Int)))
  stop : ∀ (N : Nat) (w : World) (g : Nat) (D : Dk) (F : Nat → Prop), ok w → Is N w g D F → Calls Tryz.prog 21 #[.pointer (some ⟨g, 0, none⟩)] w (Post Is N F g w D.halt (.tuple #[]))
  up : ∀ (N : Nat) (w : World) (g : Nat) (D : Dk) (F : Nat → Prop) (A' : Option Addr) (n' c' : Nat) (ch : List UInt8) (A : Option Addr) (n c : Nat) (fs : List Int) (st : Int), ok w → Is N w g D F → Rd w A' n' c' ch → (∀ a, 0 < n' → A' = some a → ¬ F a.block) → RI w .i64 A n c fs → (∀ a, 0 < n → A = some a → ¬ F a.block) → n ≤ 1099511627776 → Calls Tryz.prog 15 #[.pointer (some ⟨g, 0, none⟩), .slice A' n' c', .agg #[.slice A n c, .int .i64 st]] w fun e w' =>
    e = .returned (.tuple #[]) ∧ ∃ F', Is N w' g (D.up ch fs st) F' ∧ (∀ b, F' b → F b ∨ w.heap.size ≤ b ∨ N ≤ b ∧ ∃ a, 0 < n ∧ A = some a ∧ a.block = b) ∧ Mv N F w w'
  sure : ∀ (N : Nat) (w : World) (g : Nat) (D : Dk) (F : Nat → Prop), ok w → Is N w g D F → Calls Tryz.prog 24 #[.pointer (some ⟨g, 0, none⟩)] w fun e w' =>
    ∃ A c F', e = .returned (.slice A D.sure.length c) ∧ Rs w' (fun b => w.heap.size ≤ b ∧ ¬ F' b) A D.sure.length c D.sure ∧ Is N w' g D F' ∧ (∀ b, F' b → F b ∨ w.heap.size ≤ b) ∧ Mv N F w w'
/-- A row that was made behind a disk lies apart from it. -/
theorem own_off (M : DC) {N : Nat} {w X : World} {g : Nat} {D : Dk} {F : Nat → Prop} {e sz n c m : Nat} {A : Option Addr} {xs : List Value} (hI : M.Is N X g D F) (q : w.ownsRow X.heap.size e sz (.slice A n c) m xs) : ∀ a, 0 < n → A = some a → ¬ F a.block := fun a _ e hF => by
  have q1 := (q.lt a.block (by rw [e]; rfl)).1
  have q2 := (M.lt hI _ hF).2
  omega
end Go.Proofs.YtdbamdbdogdpjaaGreatDoor.S19

/-
  A sector's bytes as the statements of layer 19 lay them. No statement is proved here.
-/
namespace Go.Proofs.YtdbamdbdogdpjaaGreatDoor.S19
set_option linter.unusedSimpArgs false
set_option linter.unusedVariables false
set_option maxRecDepth 4096
open Go.RowKit

def rowL (c : UInt8) (n : Nat) : List UInt8 := (List.range n).map fun i => UInt8.ofNat (c.toNat + i)
theorem rowL_len (c : UInt8) (n : Nat) : (rowL c n).length = n := by simp [rowL]
theorem rowL_at (c : UInt8) (n i : Nat) (h : i < n) : (rowL c n).getD i 0 = UInt8.ofNat (c.toNat + i) := by simp [rowL, List.getD, h]
theorem rowL_step (c : UInt8) (n k : Nat) (hk : k < n) : ((rowL c n).take k ++ List.replicate (n - k) 0).set k (UInt8.ofNat (c.toNat + k)) = (rowL c n).take (k + 1) ++ List.replicate (n - (k + 1)) 0 := by
  have hl := rowL_len c n
  rw [List.set_append_right _ _ (by simp [hl]; omega)]
  have e1 : k - ((rowL c n).take k).length = 0 := by simp [hl]; omega
  rw [e1, show n - k = (n - (k + 1)) + 1 by omega, List.replicate_succ, List.set_cons_zero, List.take_add_one, List.append_assoc]
  congr 1
  have : (rowL c n)[k]? = some (UInt8.ofNat (c.toNat + k)) := by simp [rowL, hk]
  rw [this]
  rfl
def rowN (s : Bool) : Nat := if s = true then 63 else 64
end Go.Proofs.YtdbamdbdogdpjaaGreatDoor.S19

/-
  The statements' first question of layer 19, over the contracts. No statement is proved here.
-/
namespace Go.Proofs.YtdbamdbdogdpjaaGreatDoor.S19
set_option linter.unusedSimpArgs false
set_option linter.unusedVariables false
set_option maxRecDepth 4096
open Go.RowKit

theorem DC.grow (M : DC) {N : Nat} {w w' : World} {g : Nat} {D : Dk} {F : Nat → Prop} (h : M.Is N w g D F) (hb : Below w.heap.size w w') : M.Is N w' g D F :=
  M.keep h hb.size fun b _ hlt => hb.block b hlt
/-- A byte of a row that reads so. -/
theorem Rd.byte {w : World} {A : Option Addr} {n c : Nat} {xs : List UInt8} (h : Rd w A n c xs) {i : Nat} (hi : i < n) : ∃ b off, A = some ⟨b, off, none⟩ ∧ w.cell? ⟨b, off + i, none⟩ = some (.int .u8 ((xs.getD i 0).toNat : Int)) := by
  obtain ⟨b, off, rfl, _, hc⟩ := h.at_ (by omega)
  exact ⟨b, off, rfl, hc i hi⟩
theorem rd_litD (w : World) (vs : Array Value) (xs : List UInt8) (h : vs.toList = bv xs) (hm : xs.length ≤ maxLen) (b : Nat) (hb : w.heap.size = b) : Rd (w.alloc (.cells vs 5)) (some ⟨b, 0, none⟩) xs.length xs.length xs := by
  subst hb
  obtain ⟨vs⟩ := vs
  simp only at h
  subst h
  have := World.ownsRow_lit (base := 0) (e := 5) (size := 1) w (bv xs).toArray xs.length (Nat.zero_le _) hm (by simp [bv_length])
  exact Rd.own (B := 0) (e := 5) (by simpa using this)
def awD1 (b : List UInt8) : Dk := { Dk.new 3 with cnt := 1, pend := [(1, b)] }
theorem aw_w1 (b : List UInt8) (h : b.length = 64) : (Dk.new 3).write 1 b = awD1 b ∧ (Dk.new 3).writeC 1 b = 0 := by
  constructor
  · simp [Dk.write, Dk.new, Dk.has, h, Dk.stepC, Dk.step, awD1]
  · simp [Dk.writeC, Dk.new, Dk.has, h, Dk.stepC]
theorem aw_w2 (b b' : List UInt8) (h : b.length = 64) (h' : b'.length = 64) : ((awD1 b).up [42] [] 1).writeC 0 b' = 6 := by
  simp [Dk.writeC, Dk.up, awD1, Dk.new, Dk.has, h', Dk.stepC, Dk.tear_len]
theorem aw_r (b : List UInt8) : ((awD1 b).up [42] [] 1).readC 1 = 0 ∧ ((awD1 b).up [42] [] 1).readB 1 = Dk.torn 42 (List.replicate 64 0) b := by
  have h1 : ((awD1 b).up [42] [] 1).readC 1 = 0 := by simp [Dk.readC, Dk.up, awD1, Dk.new, Dk.has, Dk.tear_len]
  refine ⟨h1, ?_⟩
  rw [Dk.readB, if_pos h1]
  rfl
theorem aw_t (b : List UInt8) : (Dk.torn 42 (List.replicate 64 0) b).getD 9 0 = b.getD 9 0 ∧ (Dk.torn 42 (List.replicate 64 0) b).getD 10 0 = 0 := by
  constructor
  · simp [Dk.torn]
  · simp [Dk.torn]
end Go.Proofs.YtdbamdbdogdpjaaGreatDoor.S19

/-
  append at a step of a region that draws its order. No statement is proved here.
-/
namespace Go.Proofs.YtdbamdbdogdpjaaGreatDoor
set_option linter.unusedSimpArgs false
set_option linter.unusedVariables false
set_option maxRecDepth 1024
open Go.RowKit

theorem news_rd {w : World} {ad : Addr} {m c : Nat} {ys : List UInt8} (hr : Rd w (some ad) m c ys) : ∀ j u, (bv ys)[j]? = some u → w.cell? (ad.add j) = some u := by
  intro j u hj
  have hl := hr.len
  have hjl : j < ys.length := by
    rcases Nat.lt_or_ge j ys.length with h | h
    · exact h
    · rw [List.getElem?_eq_none (by simpa [bv_length] using h)] at hj; cases hj
  obtain ⟨b, off, e, _, hc⟩ := hr.at_ (by omega)
  injection e with e
  subst e
  have hp : (⟨b, off, none⟩ : Addr).add j = ⟨b, off + j, none⟩ := by unfold Addr.add; split <;> simp_all
  rw [bv_at ys j hjl] at hj
  rw [hp, hc j (by omega), ← hj]
  simp [List.getD, hjl]

/-- append at a step of a region that draws its order; where the new row lies. -/
theorem step_append_rd {w : World} {ops : Array Oper} {o : Oper} {a : Act} {K : Act → World → Prop} {Q : Exit → Act → World → Prop} {E : Prop} (hw : Region.wanted o (yielded ops a.tmps) = true) (s x : Operand)
    (ho : o.op = .call { callee := .builtin .append, args := #[s, x], argTypes := #[35, 35] })
    (base : Nat) (v : Value) (n : Nat) (xs : List UInt8) (hs : a.eval s = v) (hown : w.ownsRow base 5 1 v n (bv xs))
    (A : Option Addr) (m c : Nat) (ys : List UInt8) (hx : a.eval x = .slice A m c) (hr : Rd w A m c ys) (hb : n + m ≤ 140737488355328) (hbase : base ≤ w.heap.size)
    (h : ∀ v' w', w'.ownsRow base 5 1 v' (n + m) (bv (xs ++ ys)) → w.grownBy w' v.ownBlock → (v'.ownBlock = v.ownBlock ∨ v'.ownBlock = some w.heap.size) → K (a.put o.dst v') w') :
    if Region.wanted o (yielded ops a.tmps) = true then Oper.wp Tryz.prog o a w K Q else E := by
  obtain ⟨i0, hi, hz0, hz1, hz2⟩ := info_parts Tryz.infoU8
  rw [if_pos hw]
  rcases A with _ | ad
  · have hc := hr.nil rfl
    have hm : m = 0 := by have := hr.cap; omega
    subst hc hm
    obtain rfl : ys = [] := List.eq_nil_of_length_eq_zero hr.len
    have hrun := run_append_owned_none (P := Tryz.prog) (w := w) base 35 o.type 5 i0 1 Tryz.underlying35 hi v n (bv xs) hown
    unfold Oper.wp
    simp [execOp, ho, resolve, invoke, builtin, hs, hx, hrun, Result.andThen]
    exact h v w (by simpa using hown) (World.grownBy.refl _ _) (.inl rfl)
  · obtain ⟨v', w', hrun, h2, h3, _, h5⟩ := run_append_own_at (P := Tryz.prog) w base 35 o.type 5 i0 (.int .u8 0) 1 1 Tryz.underlying35 hi hz0 hz1 hz2 rfl (by omega) v n (bv xs) hown ad m c (bv ys)
      (by simp [bv_length, hr.len]) (news_rd hr) (bv_one _) (by simp only [maxLen]; omega) (by omega) hbase
    unfold Oper.wp
    simp [execOp, ho, resolve, invoke, builtin, hs, hx, hrun, Result.andThen]
    exact h v' w' (by rw [bv_append]; exact h2) h3 h5

end Go.Proofs.YtdbamdbdogdpjaaGreatDoor

/-
  Words for calls that stand in a row. Plain lemmas, no statement is proved here.
-/
namespace Go.Proofs.YtdbamdbdogdpjaaGreatDoor
set_option linter.unusedSimpArgs false
set_option linter.unusedVariables false
set_option maxRecDepth 1024
open Go.RowKit

theorem new_len {B : Nat} {w w' : World} {xs : List UInt8} {e : Ending} (h : New B w xs e w') : ∃ (A : Option Addr) (c : Nat), e = .returned (.slice A xs.length c) ∧ Rd w' A xs.length c xs ∧ Below B w w' := by
  obtain ⟨A, n, c, he, ho, hb⟩ := h
  have hl := own_len ho
  subst hl
  exact ⟨A, c, he, Rd.own ho, hb⟩
theorem rd_markAt (w : World) (vs : Array Value) (xs : List UInt8) (fr : Nat × Nat) (b : Nat) (hb : w.heap.size = b) (h : vs.toList = bv xs) (hm : xs.length ≤ maxLen) : Rd (w.alloc (.cells vs 5 fr)) (some ⟨b, 0, none⟩) xs.length xs.length xs := by
  subst hb
  obtain ⟨vs⟩ := vs
  simp only at h
  subst h
  refine ⟨rfl, Nat.le_refl _, hm, (fun e => by cases e), fun hn => ⟨w.heap.size, 0, rfl, by simp, fun j hj => ?_⟩⟩
  rw [cell_of_row _ _ _ _ _ fr (heap_alloc_new w _), Nat.zero_add]
  exact bv_getElem? _ _ hj
theorem rd_mark (w : World) (vs : Array Value) (xs : List UInt8) (fr : Nat × Nat) (h : vs.toList = bv xs) (hm : xs.length ≤ maxLen) : Rd (w.alloc (.cells vs 5 fr)) (some ⟨w.heap.size, 0, none⟩) xs.length xs.length xs := rd_markAt w vs xs fr _ rfl h hm
theorem RdBs.built2At (w : World) (b : Nat) (hb : w.heap.size = b) (T : TypeId) {A A' : Option Addr} {n c n' c' : Nat} {xs ys : List UInt8} (h : Rd w A n c xs) (h' : Rd w A' n' c' ys) :
    RdBs (w.alloc (.cells #[.slice A n c, .slice A' n' c'] T)) (some ⟨b, 0, none⟩) 2 2 [xs, ys] := by subst hb; exact RdBs.built2 w T h h'
theorem own_below {w w' : World} {B e size n : Nat} {v : Value} {xs : List Value} (h : w.ownsRow B e size v n xs) (hb : Below w.heap.size w w') : w'.ownsRow B e size v n xs := by
  refine ⟨h.1, ?_⟩
  rcases h.2 with h | ⟨g, cap, cur, h1, h2, h3, h4⟩
  · exact .inl h
  · exact .inr ⟨g, cap, cur, h1, h2, (hb.block g (Array.getElem?_eq_some_iff.1 h3).1).trans h3, h4⟩
theorem own_base {w : World} {B B' e size n : Nat} {v : Value} {xs : List Value} (h : w.ownsRow B e size v n xs) (hB : B' ≤ B) : w.ownsRow B' e size v n xs := by
  refine ⟨h.1, ?_⟩
  rcases h.2 with h | ⟨g, cap, cur, h1, h2, h3⟩
  · exact .inl h
  · exact .inr ⟨g, cap, cur, h1, Nat.le_trans hB h2, h3⟩
theorem own_only {w w' : World} {B e size n g : Nat} {v : Value} {xs : List Value} (h : w.ownsRow B e size v n xs) (hb : w.grownBy w' (some g)) (hg : v.ownBlock ≠ some g) : w'.ownsRow B e size v n xs := by
  refine ⟨h.1, ?_⟩
  rcases h.2 with h | ⟨b, cap, cur, h1, h2, h3, h4⟩
  · exact .inl h
  · refine .inr ⟨b, cap, cur, h1, h2, (hb.block b (Array.getElem?_eq_some_iff.1 h3).1 ?_).trans h3, h4⟩
    rw [h1] at hg
    simpa [Value.ownBlock] using hg
theorem own_keep {w w' : World} {B e size n b c : Nat} {row : Option Nat} {xs : List Value} (h : w.ownsRow B e size (.slice (some ⟨b, 0, none⟩) n c) n xs) (hg : w.grownBy w' row) (hb : row ≠ some b) : w'.ownsRow B e size (.slice (some ⟨b, 0, none⟩) n c) n xs := by
  refine ⟨h.1, ?_⟩
  rcases h.2 with h | ⟨g, cap, cur, h1, h2, h3, h4⟩
  · exact .inl h
  · have hgb : g = b := by injection h1 with e _ _; injection e with e; injection e with e; exact e.symm
    subst hgb
    exact .inr ⟨g, cap, cur, h1, h2, (hg.block g (Array.getElem?_eq_some_iff.1 h3).1 (fun e => hb e.symm)).trans h3, h4⟩
theorem own_free {w : World} {B e size n g : Nat} {v : Value} {xs : List Value} (h : w.ownsRow B e size v n xs) (hg : g < B) : v.ownBlock ≠ some g := fun e => by have := (h.lt g e).1; omega
theorem own_n {w : World} {B e n : Nat} {v : Value} {xs : List UInt8} (h : w.ownsRow B e 1 v (0 + n) (bv ([] ++ xs))) : w.ownsRow B e 1 v n (bv xs) := by simpa using h
theorem u8_inc (x : UInt8) : IntKind.u8.wrap ((x.toNat : Int) + 1) = ((x + 1).toNat : Int) := by
  rw [IntKind.wrap_u8', UInt8.toNat_add]
  have : (1 : UInt8).toNat = 1 := rfl
  omega
theorem run_cutSl {A : Option Addr} {n c k : Nat} {l : Int} (hl : l = k) (hk : k ≤ n) (W : World) :
    (Instr.slice 35 (.slice A n c) (some (.int .i64 l)) none none).run Tryz.prog W = .ok (.slice (if c = k then A else A.map (·.add k)) (n - k) (c - k)) W := by
  have ee : Tryz.prog.elem 35 = 5 := by kernel_rfl
  have hs : (sizeOf 5).run Tryz.prog W = .ok 1 W := by kernel_rfl
  subst hl
  rw [run_slice_l W 35 A n c (by rw [ee]; exact Tryz.underlying35) .i64 k (by omega) (by omega), ee, hs]
  simp [Result.andThen, sliced]
theorem run_cutSlAt {A : Option Addr} {n c k : Nat} {l : Int} (hl : l = k) (hk : k ≤ n) (W : World) :
    (Instr.sliceAt 35 (.slice A n c) (some (.int .i64 l)) none none).run Tryz.prog W = .ok (.slice (if c = k then A else A.map (·.add k)) (n - k) (c - k)) W := by
  have ee : Tryz.prog.elem 35 = 5 := by kernel_rfl
  rw [run_sliceAt_slice W 35 _ _ _ _ (by rw [ee]; exact Tryz.underlying35)]
  exact run_cutSl hl hk W
theorem run_cutSlLH {A : Option Addr} {n c l' m : Nat} {l h : Int} (hl : l = l') (hh : h = l' + m) (hk : l' + m ≤ c) (W : World) :
    (Instr.slice 35 (.slice A n c) (some (.int .i64 l)) (some (.int .i64 h)) none).run Tryz.prog W = .ok (.slice (if c = l' then A else A.map (·.add l')) m (c - l')) W := by
  have ee : Tryz.prog.elem 35 = 5 := by kernel_rfl
  have hs : (sizeOf 5).run Tryz.prog W = .ok 1 W := by kernel_rfl
  have e1 : h.toNat - l' = m := by omega
  have e2 : l.toNat = l' := by omega
  rw [run_slice_lh W 35 A n c (by rw [ee]; exact Tryz.underlying35) .i64 .i64 l h (by omega) (by omega) (by omega), ee, hs]
  simp only [Result.andThen, sliced, Nat.mul_one, e2, e1]
theorem run_cutSlLHAt {A : Option Addr} {n c l' m : Nat} {l h : Int} (hl : l = l') (hh : h = l' + m) (hk : l' + m ≤ c) (W : World) :
    (Instr.sliceAt 35 (.slice A n c) (some (.int .i64 l)) (some (.int .i64 h)) none).run Tryz.prog W = .ok (.slice (if c = l' then A else A.map (·.add l')) m (c - l')) W := by
  have ee : Tryz.prog.elem 35 = 5 := by kernel_rfl
  rw [run_sliceAt_slice W 35 _ _ _ _ (by rw [ee]; exact Tryz.underlying35)]
  exact run_cutSlLH hl hh hk W
theorem run_cutSlH {A : Option Addr} {n c m : Nat} {h : Int} (hh : h = (m : Nat)) (hk : m ≤ c) (W : World) :
    (Instr.slice 35 (.slice A n c) none (some (.int .i64 h)) none).run Tryz.prog W = .ok (.slice A m c) W := by
  have ee : Tryz.prog.elem 35 = 5 := by kernel_rfl
  have hs : (sizeOf 5).run Tryz.prog W = .ok 1 W := by kernel_rfl
  subst hh
  rw [run_slice_h W 35 A n c (by rw [ee]; exact Tryz.underlying35) .i64 (m : Int) (by omega) (by omega), ee, hs]
  simp only [Result.andThen, sliced, Nat.mul_one, Int.toNat_natCast, Nat.sub_zero]
  have : A.map (·.add 0) = A := by cases A <;> simp [Addr.add]
  rw [this]
  split <;> rfl
theorem run_cutSlHAt {A : Option Addr} {n c m : Nat} {h : Int} (hh : h = (m : Nat)) (hk : m ≤ c) (W : World) :
    (Instr.sliceAt 35 (.slice A n c) none (some (.int .i64 h)) none).run Tryz.prog W = .ok (.slice A m c) W := by
  have ee : Tryz.prog.elem 35 = 5 := by kernel_rfl
  rw [run_sliceAt_slice W 35 _ _ _ _ (by rw [ee]; exact Tryz.underlying35)]
  exact run_cutSlH hh hk W
end Go.Proofs.YtdbamdbdogdpjaaGreatDoor

/-
  Rows of whole numbers, and append to such a row at a step. No statement is proved here.
-/
namespace Go.Proofs.YtdbamdbdogdpjaaGreatDoor.S19
set_option linter.unusedSimpArgs false
set_option linter.unusedVariables false
set_option maxRecDepth 4096
open Go.RowKit

theorem Tryz.infoZ : (Tryz.prog.info? 3).map (fun i => (i.zero, i.size, i.bytes)) = some (some (.int .i64 0), 1, 8) := by kernel_rfl
def zv (xs : List Int) : List Value := xs.map fun b => Value.int .i64 b
theorem zv_length (xs : List Int) : (zv xs).length = xs.length := by simp [zv]
theorem zv_append (xs ys : List Int) : zv (xs ++ ys) = zv xs ++ zv ys := by simp [zv]
theorem zv_at (xs : List Int) (i : Nat) (h : i < xs.length) : (zv xs)[i]? = some (.int .i64 xs[i]) := by simp [zv, h]
theorem zv_one (xs : List Int) : ∀ u ∈ zv xs, u.oneCell' = true := by
  intro u hu
  simp only [zv, List.mem_map] at hu
  obtain ⟨b, _, rfl⟩ := hu
  rfl
theorem RI.own {w : World} {B e n : Nat} {A : Option Addr} {c : Nat} {xs : List Int} (h : w.ownsRow B e 1 (.slice A n c) n (zv xs)) : RI w .i64 A n c xs := by
  have hl : xs.length = n := by have := h.1; simp [zv_length] at this; exact this
  rcases h.2 with ⟨hv, hn⟩ | ⟨g, cap, cur, hv, _, hh, hnc, hcm, _, htake⟩
  · injection hv with h1 h2 h3
    subst h1 h2 h3
    have : xs = [] := List.eq_nil_of_length_eq_zero hl
    subst this
    exact RI.nil_ w _
  · injection hv with h1 h2 h3
    subst h1 h3
    refine ⟨hl, hnc, hcm, (fun h => by cases h), fun hn => ⟨g, 0, rfl, (Array.getElem?_eq_some_iff.1 hh).1, fun j hj => ?_⟩⟩
    have := h.cellAt j (by omega)
    rw [Nat.zero_add, this, zv_at xs j (by omega)]
    simp [List.getD, hl ▸ hj]
theorem news_zi {w : World} {ad : Addr} {m c : Nat} {ys : List Int} (hr : RI w .i64 (some ad) m c ys) : ∀ j u, (zv ys)[j]? = some u → w.cell? (ad.add j) = some u := by
  intro j u hj
  have hl := hr.len
  have hjl : j < ys.length := by
    rcases Nat.lt_or_ge j ys.length with h | h
    · exact h
    · rw [List.getElem?_eq_none (by simpa [zv_length] using h)] at hj; cases hj
  obtain ⟨b, off, e, _, hc⟩ := hr.at_ (by omega)
  injection e with e
  subst e
  have hp : (⟨b, off, none⟩ : Addr).add j = ⟨b, off + j, none⟩ := by unfold Addr.add; split <;> simp_all
  rw [zv_at ys j hjl] at hj
  rw [hp, hc j (by omega), ← hj]
  simp [List.getD, hjl]
/-- append to a row of whole numbers, at a step. -/
theorem step_append_zi {w : World} {ops : Array Oper} {o : Oper} {a : Act} {K : Act → World → Prop} {Q : Exit → Act → World → Prop} {E : Prop} (hw : Region.wanted o (yielded ops a.tmps) = true) (s x : Operand)
    (ho : o.op = .call { callee := .builtin .append, args := #[s, x], argTypes := #[36, 36] })
    (base : Nat) (v : Value) (n : Nat) (xs : List Int) (hs : a.eval s = v) (hown : w.ownsRow base 3 1 v n (zv xs))
    (ad : Addr) (m c : Nat) (ys : List Int) (hx : a.eval x = .slice (some ad) m c) (hr : RI w .i64 (some ad) m c ys) (hb : n + m ≤ 2000000000000) (hbase : base ≤ w.heap.size)
    (h : ∀ v' w', w'.ownsRow base 3 1 v' (n + m) (zv (xs ++ ys)) → w.grownBy w' v.ownBlock → (v'.ownBlock = v.ownBlock ∨ v'.ownBlock = some w.heap.size) → K (a.put o.dst v') w') :
    if Region.wanted o (yielded ops a.tmps) = true then Oper.wp Tryz.prog o a w K Q else E := by
  obtain ⟨i0, hi, hz0, hz1, hz2⟩ := info_parts Tryz.infoZ
  rw [if_pos hw]
  obtain ⟨v', w', hrun, h2, h3, _, h5⟩ := run_append_own_at (P := Tryz.prog) w base 36 o.type 3 i0 (.int .i64 0) 1 8 Tryz.underlying36 hi hz0 hz1 hz2 rfl (by omega) v n (zv xs) hown ad m c (zv ys)
      (by simp [zv_length, hr.len]) (news_zi hr) (zv_one _) (by simp only [maxLen]; omega) (by omega) hbase
  unfold Oper.wp
  simp [execOp, ho, resolve, invoke, builtin, hs, hx, hrun, Result.andThen]
  exact h v' w' (by rw [zv_append]; exact h2) h3 h5
theorem ri_lit (w : World) (z : Int) (b : Nat) (hb : w.heap.size = b) : RI (w.alloc (.cells #[.int .i64 z] 3)) .i64 (some ⟨b, 0, none⟩) 1 1 [z] := by
  subst hb
  have := World.ownsRow_lit (base := 0) (e := 3) (size := 1) w (zv [z]).toArray 1 (Nat.zero_le _) (by simp [maxLen]) (by simp [zv])
  rw [show (zv [z]).toArray = #[Value.int .i64 z] from rfl] at this
  exact RI.own (B := 0) (e := 3) (by simpa [zv] using this)
theorem RI.cell {w : World} {k : IntKind} {A : Option Addr} {n c : Nat} {xs : List Int} (h : RI w k A n c xs) {i : Nat} (hi : i < n) : ∃ b off, A = some ⟨b, off, none⟩ ∧ b < w.heap.size ∧ w.cell? ⟨b, off + i, none⟩ = some (.int k (xs.getD i 0)) := by
  obtain ⟨b, off, rfl, hb, hc⟩ := h.at_ (by omega)
  exact ⟨b, off, rfl, hb, hc i hi⟩
end Go.Proofs.YtdbamdbdogdpjaaGreatDoor.S19
