/-
  What the calls of package disk are to do, as one structure; what a call on a disk may touch. No statement is proved here.
-/
import Derived.Test.YtammgingmkdfhaaDk1
import Derived.Test.YtammgingmkdfhaaSame
import Derived.Test.YtammgingmkdfhaaBlk
namespace Go.Proofs.Ytammgingmkdfhaa.S19
set_option linter.unusedSimpArgs false
set_option linter.unusedVariables false
open Go.RowKit

/-- What a call on something that lies in the blocks of F may touch: these, and new ones; what lay below N stays. -/
structure Mv (N : Nat) (F : Nat → Prop) (w w' : World) : Prop where
  bel : Below N w w'
  same : ∀ b, b < w.heap.size → ¬ F b → w'.heap[b]? = w.heap[b]?
section
variable {N : Nat} {F F' : Nat → Prop} {w w' w'' : World}
theorem Mv.refl (N : Nat) (F : Nat → Prop) (w : World) : Mv N F w w := ⟨Below.refl _ _, fun _ _ _ => rfl⟩
theorem Mv.trans (h : Mv N F w w') (k : Mv N F' w' w'') (hF : ∀ b, F' b → F b ∨ w.heap.size ≤ b) : Mv N F w w'' :=
  ⟨h.bel.trans k.bel, fun b h1 h2 => (k.same b (Nat.lt_of_lt_of_le h1 h.bel.size) fun e => (hF b e).elim h2 fun e => by omega).trans (h.same b h1 h2)⟩
theorem Mv.of (hN : N ≤ w.heap.size) (h : Below w.heap.size w w') : Mv N F w w' := ⟨h.mono hN, fun b h1 _ => h.block b h1⟩
theorem Mv.size (h : Mv N F w w') : w.heap.size ≤ w'.heap.size := h.bel.size
theorem Mv.mono (h : Mv N F w w') (hF : ∀ b, F b → F' b) : Mv N F' w w' := ⟨h.bel, fun b h1 h2 => h.same b h1 fun e => h2 (hF b e)⟩
theorem Mv.rd (h : Mv N F w w') {A : Option Addr} {m c : Nat} {xs : List UInt8} (hr : Rd w A m c xs) (ha : ∀ a, 0 < m → A = some a → ¬ F a.block) : Rd w' A m c xs := by
  refine ⟨hr.len, hr.cap, hr.max, hr.nil, fun hn => ?_⟩
  obtain ⟨b, off, rfl, hb, hc⟩ := hr.at_ hn
  exact ⟨b, off, rfl, Nat.lt_of_lt_of_le hb h.size, fun j hj => (World.cell?_of_block (a := ⟨b, off + j, none⟩) (h.same b hb (ha _ hn rfl))).trans (hc j hj)⟩
/-- A row below N. -/
theorem Mv.rdN (h : Mv N F w w') {w0 : World} (hN : w0.heap.size = N) (h0 : Below N w0 w) {A : Option Addr} {m c : Nat} {xs : List UInt8} (hr : Rd w0 A m c xs) : Rd w' A m c xs :=
  hr.below (by rw [hN]; exact h0.trans h.bel)
theorem Mv.bk (h : Mv N F w w') {g : Nat} {t : TypeId} {cs : Array Value} (hb : Bk w g t cs) (hg : ¬ F g) : Bk w' g t cs := (h.same _ hb.lt hg).trans hb
end

/-- A row of whole numbers. -/
structure RI (w : World) (k : IntKind) (A : Option Addr) (n c : Nat) (xs : List Int) : Prop where
  len : xs.length = n
  cap : n ≤ c
  max : c ≤ maxLen
  nil : A = none → c = 0
  at_ : 0 < n → ∃ b off, A = some ⟨b, off, none⟩ ∧ b < w.heap.size ∧ ∀ j, j < n → w.cell? ⟨b, off + j, none⟩ = some (.int k (xs.getD j 0))
theorem RI.nil_ (w : World) (k : IntKind) : RI w k none 0 0 [] := ⟨rfl, Nat.le_refl _, by simp [maxLen], fun _ => rfl, fun h => absurd h (by omega)⟩
theorem RI.keep {w w' : World} {k : IntKind} {A : Option Addr} {n c : Nat} {xs : List Int} (h : RI w k A n c xs) (hs : w.heap.size ≤ w'.heap.size) (hk : ∀ a, 0 < n → A = some a → a.block < w.heap.size → w'.heap[a.block]? = w.heap[a.block]?) : RI w' k A n c xs :=
  ⟨h.len, h.cap, h.max, h.nil, fun hn => by
    obtain ⟨b, off, rfl, hb, hc⟩ := h.at_ hn
    exact ⟨b, off, rfl, Nat.lt_of_lt_of_le hb hs, fun j hj => (World.cell?_of_block (a := ⟨b, off + j, none⟩) (hk ⟨b, off, none⟩ hn rfl hb)).trans (hc j hj)⟩⟩
theorem RI.below {w w' : World} {k : IntKind} {A : Option Addr} {n c : Nat} {xs : List Int} (h : RI w k A n c xs) (hb : Below w.heap.size w w') : RI w' k A n c xs :=
  h.keep hb.size fun a _ _ ha => hb.block _ ha

/-- What a call on a disk comes to: an answer, and the disk. -/
def Post (Is : Nat → World → Nat → Dk → (Nat → Prop) → Prop) (N : Nat) (F : Nat → Prop) (g : Nat) (w : World) (D' : Dk) (v : Value) (e : Ending) (w' : World) : Prop :=
  e = .returned v ∧ ∃ F', Is N w' g D' F' ∧ (∀ b, F' b → F b ∨ w.heap.size ≤ b) ∧ Mv N F w w'
/-- Slices of rows of a disk. -/
structure Rs (w : World) (S : Nat → Prop) (A : Option Addr) (n c : Nat) (xss : List (List UInt8)) : Prop where
  len : xss.length = n
  cap : n ≤ c
  max : c ≤ maxLen
  nil : A = none → c = 0
  at_ : 0 < n → ∃ b off, A = some ⟨b, off, none⟩ ∧ b < w.heap.size ∧ S b ∧ ∀ j, j < n → ∃ A' m c', w.cell? ⟨b, off + j, none⟩ = some (.slice A' m c') ∧ Rd w A' m c' (xss.getD j []) ∧ ∀ a, 0 < m → A' = some a → S a.block
theorem Rs.keep {w w' : World} {S : Nat → Prop} {A : Option Addr} {n c : Nat} {xss : List (List UInt8)} (h : Rs w S A n c xss) (hs : w.heap.size ≤ w'.heap.size) (hk : ∀ b, S b → b < w.heap.size → w'.heap[b]? = w.heap[b]?) : Rs w' S A n c xss :=
  ⟨h.len, h.cap, h.max, h.nil, fun hn => by
    obtain ⟨b, off, rfl, hb, hS, hc⟩ := h.at_ hn
    refine ⟨b, off, rfl, Nat.lt_of_lt_of_le hb hs, hS, fun j hj => ?_⟩
    obtain ⟨A', m, c', h1, h2, h3⟩ := hc j hj
    refine ⟨A', m, c', (World.cell?_of_block (a := ⟨b, off + j, none⟩) (hk b hS hb)).trans h1, ⟨h2.len, h2.cap, h2.max, h2.nil, fun hm => ?_⟩, h3⟩
    obtain ⟨b', off', rfl, hb', hc'⟩ := h2.at_ hm
    exact ⟨b', off', rfl, Nat.lt_of_lt_of_le hb' hs, fun i hi => (World.cell?_of_block (a := ⟨b', off' + i, none⟩) (hk b' (h3 _ hm rfl) hb')).trans (hc' i hi)⟩⟩
structure DC where
  ok : World → Prop
  bel : ∀ {w w' : World}, ok w → Below w.heap.size w w' → ok w'
  Is : Nat → World → Nat → Dk → (Nat → Prop) → Prop
  okD : ∀ {N : Nat} {w : World} {g : Nat} {D : Dk} {F : Nat → Prop}, Is N w g D F → D.Ok
  lt : ∀ {N : Nat} {w : World} {g : Nat} {D : Dk} {F : Nat → Prop}, Is N w g D F → ∀ b, F b → N ≤ b ∧ b < w.heap.size
  keep : ∀ {N : Nat} {w w' : World} {g : Nat} {D : Dk} {F : Nat → Prop}, Is N w g D F → w.heap.size ≤ w'.heap.size → (∀ b, (b < N ∨ F b) → b < w.heap.size → w'.heap[b]? = w.heap[b]?) → Is N w' g D F
  new : ∀ (N : Nat) (w : World) (k : Nat), ok w → N ≤ w.heap.size → 1 ≤ k → k ≤ 256 → Calls Try.prog 9 #[.int .i64 (k : Int)] w fun e w' => ∃ g F, e = .returned (.tuple #[.pointer (some ⟨g, 0, none⟩), .int .i64 0]) ∧ Is N w' g (Dk.new k) F ∧ (∀ b, F b → w.heap.size ≤ b) ∧ Below w.heap.size w w'
  newNot : ∀ (w : World) (k : Int), ok w → k < 1 ∨ 256 < k → k < 9223372036854775808 → -9223372036854775808 ≤ k → Calls Try.prog 9 #[.int .i64 k] w fun e w' => ∃ v, e = .returned (.tuple #[v, .int .i64 1]) ∧ Below w.heap.size w w'
  plan : ∀ (N : Nat) (w : World) (g : Nat) (D : Dk) (F : Nat → Prop) (A : Option Addr) (n c : Nat) (fs : List Int) (st : Int), ok w → Is N w g D F → RI w .i64 A n c fs → n ≤ 1099511627776 → Calls Try.prog 21 #[.pointer (some ⟨g, 0, none⟩), .agg #[.slice A n c, .int .i64 st]] w fun e w' =>
    e = .returned (.tuple #[]) ∧ ∃ F', Is N w' g (D.plan fs st) F' ∧ (∀ b, F' b → F b ∨ w.heap.size ≤ b ∨ N ≤ b ∧ ∃ a, 0 < n ∧ A = some a ∧ a.block = b) ∧ Mv N F w w'
  read : ∀ (N : Nat) (w : World) (g : Nat) (D : Dk) (F : Nat → Prop) (i : Int), ok w → Is N w g D F → Calls Try.prog 22 #[.pointer (some ⟨g, 0, none⟩), .int .i64 i] w fun e w' =>
    ∃ A c F', e = .returned (.tuple #[.slice A (D.readB i).length c, .int .i64 (D.readC i : Int)]) ∧ Rd w' A (D.readB i).length c (D.readB i) ∧ (∀ a, 0 < (D.readB i).length → A = some a → w.heap.size ≤ a.block ∧ ¬ F' a.block) ∧ Is N w' g D F' ∧ (∀ b, F' b → F b ∨ w.heap.size ≤ b) ∧ Mv N F w w'
  write : ∀ (N : Nat) (w : World) (g : Nat) (D : Dk) (F : Nat → Prop) (i : Int) (A : Option Addr) (n c : Nat) (b : List UInt8), ok w → Is N w g D F → Rd w A n c b → (∀ a, 0 < n → A = some a → ¬ F a.block) → D.cnt < 1099511627776 → Calls Try.prog 15 #[.pointer (some ⟨g, 0, none⟩), .int .i64 i, .slice A n c] w (Post Is N F g w (D.write i b) (.int .i64 (D.writeC i b : Int)))
  flush : ∀ (N : Nat) (w : World) (g : Nat) (D : Dk) (F : Nat → Prop), ok w → Is N w g D F → D.cnt < 1099511627776 → Calls Try.prog 17 #[.pointer (some ⟨g, 0, none⟩)] w (Post Is N F g w D.flush (.int .i64 (D.stepC : Int)))
  stop : ∀ (N : Nat) (w : World) (g : Nat) (D : Dk) (F : Nat → Prop), ok w → Is N w g D F → Calls Try.prog 20 #[.pointer (some ⟨g, 0, none⟩)] w (Post Is N F g w D.halt (.tuple #[]))
  up : ∀ (N : Nat) (w : World) (g : Nat) (D : Dk) (F : Nat → Prop) (A' : Option Addr) (n' c' : Nat) (ch : List UInt8) (A : Option Addr) (n c : Nat) (fs : List Int) (st : Int), ok w → Is N w g D F → Rd w A' n' c' ch → (∀ a, 0 < n' → A' = some a → ¬ F a.block) → RI w .i64 A n c fs → (∀ a, 0 < n → A = some a → ¬ F a.block) → n ≤ 1099511627776 → Calls Try.prog 18 #[.pointer (some ⟨g, 0, none⟩), .slice A' n' c', .agg #[.slice A n c, .int .i64 st]] w fun e w' =>
    e = .returned (.tuple #[]) ∧ ∃ F', Is N w' g (D.up ch fs st) F' ∧ (∀ b, F' b → F b ∨ w.heap.size ≤ b ∨ N ≤ b ∧ ∃ a, 0 < n ∧ A = some a ∧ a.block = b) ∧ Mv N F w w'
  sure : ∀ (N : Nat) (w : World) (g : Nat) (D : Dk) (F : Nat → Prop), ok w → Is N w g D F → Calls Try.prog 13 #[.pointer (some ⟨g, 0, none⟩)] w fun e w' =>
    ∃ A c F', e = .returned (.slice A D.sure.length c) ∧ Rs w' (fun b => w.heap.size ≤ b ∧ ¬ F' b) A D.sure.length c D.sure ∧ Is N w' g D F' ∧ (∀ b, F' b → F b ∨ w.heap.size ≤ b) ∧ Mv N F w w'
  count : ∀ (N : Nat) (w : World) (g : Nat) (D : Dk) (F : Nat → Prop), ok w → Is N w g D F → Calls Try.prog 14 #[.pointer (some ⟨g, 0, none⟩)] w (Post Is N F g w D (.tuple #[.int .i64 (D.cnt : Int), .int .i64 (D.pend.length : Int)]))
/-- A row that was made behind a disk lies apart from it. -/
theorem own_off (M : DC) {N : Nat} {w X : World} {g : Nat} {D : Dk} {F : Nat → Prop} {e sz n c m : Nat} {A : Option Addr} {xs : List Value} (hI : M.Is N X g D F) (q : w.ownsRow X.heap.size e sz (.slice A n c) m xs) : ∀ a, 0 < n → A = some a → ¬ F a.block := fun a _ e hF => by
  have q1 := (q.lt a.block (by rw [e]; rfl)).1
  have q2 := (M.lt hI _ hF).2
  omega
end Go.Proofs.Ytammgingmkdfhaa.S19
