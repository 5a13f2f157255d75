/-
  The document's own disk: what is torn, byte by byte; another plan; a row that has come. No statement is proved here.
-/
import Derived.Test.YtammgingmkdfhaaDkE
namespace Go.Proofs.Ytammgingmkdfhaa.S19
set_option linter.unusedSimpArgs false
set_option linter.unusedVariables false
set_option maxRecDepth 4096
open Go.RowKit

/-- Is the byte j of a torn row that which was to be written? -/
def tears (c j : Nat) : Prop := c % 4 = 1 ∨ (c % 4 = 2 ∧ j < c / 4) ∨ (c % 4 = 3 ∧ c / 4 ≤ j)
instance (c j : Nat) : Decidable (tears c j) := by unfold tears; exact inferInstance
/-- The first k bytes have been gone through. -/
def tornP (c : Nat) (old now : List UInt8) (k : Nat) : List UInt8 := (List.range 64).map fun j => if j < k ∧ tears c j then now.getD j 0 else old.getD j 0
theorem tornP_len (c : Nat) (old now : List UInt8) (k : Nat) : (tornP c old now k).length = 64 := by simp [tornP]
theorem tornP_zero (c : Nat) (old now : List UInt8) (h : old.length = 64) : tornP c old now 0 = old := by
  apply List.ext_getElem (by simp [tornP, h])
  intro i h1 h2
  simp [tornP, List.getD, h2]
theorem tornP_full (c : Nat) (old now : List UInt8) : tornP c old now 64 = Dk.torn c old now := by
  unfold tornP Dk.torn
  apply List.map_congr_left
  intro j hj
  rw [List.mem_range] at hj
  simp only [hj, true_and, tears]
theorem tornP_miss {c k : Nat} (old now : List UInt8) (h : ¬ tears c k) : tornP c old now (k + 1) = tornP c old now k := by
  unfold tornP
  apply List.map_congr_left
  intro j hj
  by_cases e : j = k
  · subst e
    rw [if_neg (fun q => h q.2), if_neg (fun q => h q.2)]
  · have : (j < k + 1) = (j < k) := propext (by omega)
    simp only [this]
theorem tornP_hit {c k : Nat} (old now : List UInt8) (hk : k < 64) (h : tears c k) : tornP c old now (k + 1) = (tornP c old now k).set k (now.getD k 0) := by
  apply List.ext_getElem (by simp [tornP])
  intro i h1 h2
  have h3 : i < 64 := by simpa [tornP] using h1
  by_cases e : k = i
  · subst e
    rw [List.getElem_set_self]
    simp [tornP, h]
  · rw [List.getElem_set_ne e]
    have : (i < k + 1) = (i < k) := propext (by omega)
    simp only [tornP, List.getElem_map, List.getElem_range, this]
theorem tear_snoc (ch : List UInt8) (q : Nat × List UInt8) : ∀ (ps : List (Nat × List UInt8)) (k : Nat) (s : List (List UInt8)), Dk.tear ch k (ps ++ [q]) s = (Dk.tear ch k ps s).set q.1 (Dk.torn (Dk.choice ch (k + ps.length)) ((Dk.tear ch k ps s).getD q.1 []) q.2)
  | [], k, s => rfl
  | p :: ps, k, s => by
    rw [List.cons_append, Dk.tear, tear_snoc ch q ps, Dk.tear, List.length_cons]
    rw [show k + 1 + ps.length = k + (ps.length + 1) by omega]
theorem tear_take (ch : List UInt8) (ps : List (Nat × List UInt8)) (s : List (List UInt8)) (k : Nat) (hk : k < ps.length) : Dk.tear ch 0 (ps.take (k + 1)) s = (Dk.tear ch 0 (ps.take k) s).set (ps.getD k (0, [])).1 (Dk.torn (Dk.choice ch k) ((Dk.tear ch 0 (ps.take k) s).getD (ps.getD k (0, [])).1 []) (ps.getD k (0, [])).2) := by
  have e : ps.take (k + 1) = ps.take k ++ [ps.getD k (0, [])] := by
    have e0 : ps.getD k (0, []) = ps[k] := by simp [List.getD, hk]
    rw [e0, List.take_add_one, List.getElem?_eq_getElem hk]
    rfl
  rw [e, tear_snoc, List.length_take, Nat.min_eq_left (Nat.le_of_lt hk), Nat.zero_add]
section
variable {N : Nat} {w w' : World} {h : Nat} {G : Nat → Prop} {V : RkV} {sure : List (List UInt8)} {zs : List Int} {rs : List (List UInt8)} {fails : List Int}
/-- Another plan. -/
theorem Rest.plan (r : Rest N w h sure zs rs fails G V) {A : Option Addr} {n c : Nat} {fs : List Int} (hf : RI w .i64 A n c fs) (hA : ∀ a, 0 < n → A = some a → (a.block < N ∨ G a.block) ∧ ¬ spine h V a.block) : Rest N w h sure zs rs fs G { V with AF := A, nF := n, cF := c } :=
  ⟨r.oS, r.rS, r.oW, r.oB, r.rB, hf, hA, r.inG, r.gN, r.dS, r.dW, r.dB⟩
theorem Rest.notSpine (r : Rest N w h sure zs rs fails G V) {b : Nat} (hb : b < N) : ¬ spine h V b := fun e => by
  have := (r.gN b (r.inG b e)).1
  omega
/-- A row in a new block may be the disk's. -/
theorem Rest.fresh (r : Rest N w h sure zs rs fails G V) (hb : Below w.heap.size w w') {A : Option Addr} {n c : Nat} {xs : List UInt8} (hr : Rd w' A n c xs) (hA : ∀ a, 0 < n → A = some a → w.heap.size ≤ a.block) :
    Rest N w' h sure zs rs fails (fun b => G b ∨ ∃ a, 0 < n ∧ A = some a ∧ a.block = b) V ∧ Rr w' (fun b => G b ∨ ∃ a, 0 < n ∧ A = some a ∧ a.block = b) h V (some (.slice A n c)) xs ∧ (∀ b, (G b ∨ ∃ a, 0 < n ∧ A = some a ∧ a.block = b) → G b ∨ w.heap.size ≤ b) := by
  have hN := r.lo
  have hlt : ∀ a, 0 < n → A = some a → a.block < w'.heap.size := fun a h1 h2 => by
    obtain ⟨b, off, e, hbb, _⟩ := hr.at_ h1
    rw [h2] at e
    injection e with e
    subst e
    exact hbb
  refine ⟨(r.keep hb.size fun b _ hl => hb.block b hl).more (fun b e => .inl e) ?_, ⟨A, n, c, rfl, hr, fun a h1 h2 => ⟨.inr ⟨a, h1, h2, rfl⟩, fun e => ?_⟩⟩, ?_⟩
  · rintro b (e | ⟨a, h1, h2, rfl⟩)
    · exact ⟨(r.gN b e).1, Nat.lt_of_lt_of_le (r.gN b e).2 hb.size⟩
    · exact ⟨Nat.le_trans hN (hA a h1 h2), hlt a h1 h2⟩
  · have q1 := (r.gN _ (r.inG _ e)).2
    have q2 := hA a h1 h2
    omega
  · rintro b (e | ⟨a, h1, h2, rfl⟩)
    · exact .inl e
    · exact .inr (hA a h1 h2)
end
end Go.Proofs.Ytammgingmkdfhaa.S19
