/-
  The call of the statement Sha2Turns of layer 2.
-/
import Derived.Test.YtfgpahenacgmdaaDoorAwake2
import Derived.Test.YtfgpahenacgmdaaDoorEql
namespace Go.Proofs.YtfgpahenacgmdaaDoor.S2
set_option linter.unusedSimpArgs false
set_option linter.unusedVariables false
open Go.RowKit

def kAt (t : Int) : Int := ((if 0 ≤ t ∧ t < 64 then kT.getD t.toNat 0 else 0).toNat : Int)
theorem keepT {w' : World} {B : Nat} {s : St} {cl : List Value} (b0 : Bk w' B 28 (sA s)) (b1 : Bk w' (B + 1) 29 cl.toArray) :
    w'.cell? ⟨B, 0, none⟩ = some (.int .u32 (s.a.toNat : Int)) ∧ w'.cell? ⟨B, 1, none⟩ = some (.int .u32 (s.b.toNat : Int)) ∧ w'.cell? ⟨B, 2, none⟩ = some (.int .u32 (s.c.toNat : Int)) ∧ w'.cell? ⟨B, 3, none⟩ = some (.int .u32 (s.d.toNat : Int)) ∧
      w'.cell? ⟨B, 4, none⟩ = some (.int .u32 (s.e.toNat : Int)) ∧ w'.cell? ⟨B, 5, none⟩ = some (.int .u32 (s.f.toNat : Int)) ∧ w'.cell? ⟨B, 6, none⟩ = some (.int .u32 (s.g.toNat : Int)) ∧ w'.cell? ⟨B, 7, none⟩ = some (.int .u32 (s.h.toNat : Int)) ∧ w'.rangeAt (B + 1) 0 cl :=
  ⟨b0.cell 0, b0.cell 1, b0.cell 2, b0.cell 3, b0.cell 4, b0.cell 5, b0.cell 6, b0.cell 7, fun j v hv => by rw [Nat.zero_add, b1.cell]; simpa using hv⟩
set_option maxHeartbeats 2000000 in
theorem sha2Turns_walk (w : World) (hk : GOk w) (s : St) (xs : List UInt8) (hx : xs.length = 64) (t : Int) :
    Calls Tryd.prog 4 #[.agg (sA s), .agg (bv xs).toArray, .int .i64 t] w fun e w' => e = .returned (.bool true) ∧ Below w.heap.size w w' := by
  have HX := Lib.hid hx
  have HK := Lib.hid hk
  obtain ⟨cl, hcs⟩ : ∃ cl, cl = bv xs := ⟨_, rfl⟩
  have hsz : cl.length = 64 := by rw [hcs, bv_length, hx]
  obtain ⟨V, hV⟩ : ∃ V, V = Value.agg (sA (turn s xs)) := ⟨_, rfl⟩
  have heq : ∀ W, (binOp .eql 28 V V).run Tryd.prog W = .ok (.bool true) W := fun W => by rw [hV, run_eql_state]; simp
  have heg : ∀ W x y, (eqGuard .eql 28 x y V V).run Tryd.prog W = .ok () W := fun W x y => by rw [hV]; exact run_eqGuard_agg W _ _ _ _ _ _ (by kernel_rfl)
  have HT := Lib.hid (show ∀ W, KOk W → Calls Tryd.prog 13 #[.agg (sA s), .agg cl.toArray] W fun e w' => e = .returned V ∧ Below W.heap.size W w' from fun W h => by rw [hV, hcs]; exact turn_any s xs W hx h)
  have HRT := Lib.hid (show ∀ W A c, Rd W A 64 c xs → Calls Tryd.prog 14 #[.agg (sA s), .slice A 64 c] W fun e w' => e = .returned V ∧ Below W.heap.size W w' from fun W A c h => by rw [hV]; exact rturn_any s A c xs W h)
  obtain ⟨kv, hkv⟩ : ∃ kv, kv = kAt t := ⟨_, rfl⟩
  have HKA := Lib.hid (show ∀ W, KOk W → Calls Tryd.prog 15 #[.int .i64 t] W fun e w' => e = .returned (.int .u32 kv) ∧ W = w' from fun W h => by rw [hkv]; exact k_any t W h)
  have HRK := Lib.hid (show ∀ W, Calls Tryd.prog 16 #[.int .i64 t] W fun e w' => e = .returned (.int .u32 kv) ∧ Below W.heap.size W w' from fun W => by rw [hkv]; exact rk_any t W)
  rw [← hcs]
  have HCS := Lib.hid hcs
  have HSZ := Lib.hid hsz
  clear hcs hsz hV hkv hx hk
  have hB0 : Below w.heap.size w ((w.alloc (.cells (sA s) 28)).alloc (.cells cl.toArray 29)) := ((Below.refl _ _).alloc (Nat.le_refl _) _).alloc (by simp) _
  have b0 : Bk ((w.alloc (.cells (sA s) 28)).alloc (.cells cl.toArray 29)) w.heap.size 28 (sA s) := (Bk.newAt _ _ _ _ rfl).alloc _
  have b1 : Bk ((w.alloc (.cells (sA s) 28)).alloc (.cells cl.toArray 29)) (w.heap.size + 1) 29 cl.toArray := Bk.newAt _ _ _ _ (by simp)
  have B0 := Lib.hid b0
  have B1 := Lib.hid b1
  have HB0 := Lib.hid hB0
  clear b0 b1 hB0
  go_enter Tryd.func4, Tryd.ntmps4
  go_wp2_with (go_at_call 9; ((with_reducible refine (awake_true _ (HK.out.below (Nat.le_refl _) HB0.out)).mono ?_); rintro e w1 ⟨rfl, hb1⟩))
  have b0 := B0.out.below hb1 B0.out.lt
  have b1 := B1.out.below hb1 B1.out.lt
  have HB := Lib.hid (HB0.out.trans (hb1.mono HB0.out.size))
  clear hb1
  have b0 := b0.drew
  have b1 := b1.drew
  have HBd := Lib.hid HB.out.drew
  have G1 := Lib.hid (HK.out.below (Nat.le_refl _) HBd.out).k
  have hrd : Rd w1.drew (some ⟨w.heap.size + 1, 0, none⟩) 64 64 xs := by
    refine Rd.of_bk b1 HX.out (Nat.le_refl _) (by simp [maxLen]) fun j hj => ?_
    have := HX.out
    rw [Nat.zero_add, HCS.out]; exact bv_getElem? _ _ (by omega)
  have HRD := Lib.hid hrd
  have hu64 := Tryd.underlying29
  have hi64 : (Tryd.prog.info? 29).map (·.size) = some cl.length := by rw [HSZ.out]; kernel_rfl
  have K0 := Lib.hid b0
  have K1 := Lib.hid b1
  have hlt0 := b0.lt
  have hlt1 := b1.lt
  clear b0 b1 hrd
  go_region_held3 (fun w' => w'.cell? ⟨w.heap.size, 0, none⟩ = some (.int .u32 (s.a.toNat : Int)) ∧ w'.cell? ⟨w.heap.size, 1, none⟩ = some (.int .u32 (s.b.toNat : Int)) ∧ w'.cell? ⟨w.heap.size, 2, none⟩ = some (.int .u32 (s.c.toNat : Int)) ∧ w'.cell? ⟨w.heap.size, 3, none⟩ = some (.int .u32 (s.d.toNat : Int)) ∧
      w'.cell? ⟨w.heap.size, 4, none⟩ = some (.int .u32 (s.e.toNat : Int)) ∧ w'.cell? ⟨w.heap.size, 5, none⟩ = some (.int .u32 (s.f.toNat : Int)) ∧ w'.cell? ⟨w.heap.size, 6, none⟩ = some (.int .u32 (s.g.toNat : Int)) ∧ w'.cell? ⟨w.heap.size, 7, none⟩ = some (.int .u32 (s.h.toNat : Int)) ∧ w'.rangeAt (w.heap.size + 1) 0 cl)
    (first
      | exact keepT K6.out K6'.out
      | exact keepT K4.out K4'.out
      | exact keepT K3.out K3'.out
      | exact keepT K0.out K1.out)
    (first
      | (go_at_call 13; ((with_reducible refine (HT.out _ G1.out).mono ?_); rintro e w3 ⟨rfl, b3⟩; have K3 := Lib.hid (K0.out.below b3 hlt0); have K3' := Lib.hid (K1.out.below b3 hlt1); have B3 := Lib.hid b3; clear b3))
      | (go_at_call 14; ((with_reducible refine (HRT.out _ _ _ (HRD.out.below B3.out)).mono ?_); rintro e w4 ⟨rfl, b4⟩; have K4 := Lib.hid (K3.out.below b4 K3.out.lt); have K4' := Lib.hid (K3'.out.below b4 K3'.out.lt); have B4 := Lib.hid (HBd.out.trans (B3.out.mono HBd.out.size)); have B5 := Lib.hid (B4.out.trans (b4.mono B4.out.size)); clear b4))
      | (go_at_call 15; ((with_reducible refine (HKA.out _ (HK.out.below (Nat.le_refl _) B5.out).k).mono ?_); rintro e w5 ⟨rfl, rfl⟩))
      | (go_at_call 16; ((with_reducible refine (HRK.out _).mono ?_); rintro e w6 ⟨rfl, b6⟩; have K6 := Lib.hid (K4.out.below b6 K4.out.lt); have K6' := Lib.hid (K4'.out.below b6 K4'.out.lt); have B6 := Lib.hid (B5.out.trans (b6.mono B5.out.size)); clear b6)))
  go_wp2
  go_ret
  exact ⟨rfl, B6.out⟩
theorem sha2Turns_frame (w : World) (hk : GOk w) (v0 : Value) (y0 : St) (o0 : v0 = .agg (sA y0)) (v1 : Value) (y1 : List UInt8) (o1 : v1 = .agg (bv y1).toArray ∧ y1.length = 64) (a2 : Int) (w2 : (Lit.int .i64 a2).wf = true) :
    Calls Tryd.prog 4 #[v0, v1, .int .i64 a2] w fun e w' => e = .returned (.bool true) ∧ Below w.heap.size w w' := by
  obtain ⟨rfl, hx⟩ := o1
  subst o0
  exact sha2Turns_walk w hk y0 y1 hx a2
end Go.Proofs.YtfgpahenacgmdaaDoor.S2
