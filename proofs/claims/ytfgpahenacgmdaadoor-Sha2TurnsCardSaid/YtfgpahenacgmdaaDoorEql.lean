/-
  Two states are compared. Plain lemmas, no statement is proved here.
-/
import Derived.Test.YtfgpahenacgmdaaDoorTurn2
import Derived.Test.YtfgpahenacgmdaaDoorPair
import Derived.ChangeKeysEq
namespace Go.Proofs.YtfgpahenacgmdaaDoor.S2
set_option linter.unusedSimpArgs false
set_option linter.unusedVariables false
open Go.RowKit

theorem run_eql_state (s s' : St) (W : World) : (binOp .eql 28 (.agg (sA s)) (.agg (sA s'))).run Tryd.prog W = .ok (.bool (decide (s = s'))) W := by
  obtain ⟨i, hi, hz⟩ : ∃ i, Tryd.prog.info? 27 = some i ∧ i.size = 1 := by
    have h := Tryd.infoU32
    cases hq : Tryd.prog.info? 27 with
    | none => simp [hq] at h
    | some i => exact ⟨i, rfl, by simpa [hq] using h⟩
  rw [run_eql_struct W, run_equalIn_array W 9999 _ _ Tryd.underlying28 hi]
  have hc : Tryd.prog.cellsOf 27 = 1 := by kernel_rfl
  have hp : ∀ (cs : Array Value) (j : Nat) (v : Value), cs[j]? = some v → (part 27 cs (j * 1)).run Tryd.prog W = .ok v W := fun cs j v h => by
    simp [part, isAgg, run_underlying Tryd.underlying27, h]
  have one : ∀ (j : Nat) (js : List Nat) (x y : UInt32), (sA s)[j]? = some (.int .u32 (x.toNat : Int)) → (sA s')[j]? = some (.int .u32 (y.toNat : Int)) →
      (Op.eqItems 9999 27 1 (sA s) (sA s') (j :: js)).run Tryd.prog W = if x = y then (Op.eqItems 9999 27 1 (sA s) (sA s') js).run Tryd.prog W else .ok false W := fun j js x y h1 h2 => by
    simp only [Op.eqItems, Sem.run_bind, hp _ _ _ h1, hp _ _ _ h2, Result.andThen_ok]
    rw [run_equalIn_int W 9998 27 .u32 .u32 _ _ Tryd.underlying27]
    by_cases e : x = y
    · subst e; simp
    · have : ((x.toNat : Int) == (y.toNat : Int)) = false := by
        simp only [beq_eq_false_iff_ne, ne_eq]
        intro h; exact e (UInt32.toNat_inj.1 (by omega))
      simp [this, e]
  have hr : List.range 8 = [0, 1, 2, 3, 4, 5, 6, 7] := rfl
  rw [hc, hr, one 0 _ s.a s'.a rfl rfl, one 1 _ s.b s'.b rfl rfl, one 2 _ s.c s'.c rfl rfl, one 3 _ s.d s'.d rfl rfl, one 4 _ s.e s'.e rfl rfl, one 5 _ s.f s'.f rfl rfl, one 6 _ s.g s'.g rfl rfl, one 7 _ s.h s'.h rfl rfl]
  obtain ⟨a, b, c, d, e, f, g, h⟩ := s
  obtain ⟨a', b', c', d', e', f', g', h'⟩ := s'
  by_cases ha : a = a' <;> simp [ha]
  by_cases hb : b = b' <;> simp [hb]
  by_cases hc : c = c' <;> simp [hc]
  by_cases hd : d = d' <;> simp [hd]
  by_cases he : e = e' <;> simp [he]
  by_cases hf : f = f' <;> simp [hf]
  by_cases hg : g = g' <;> simp [hg]
  by_cases hh : h = h' <;> simp [hh, Op.eqItems]
end Go.Proofs.YtfgpahenacgmdaaDoor.S2
