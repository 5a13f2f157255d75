/-
  Texts put together: WpK7, WpK8, WpK9. No statement is proved here.
-/
import Derived.Test.YtkpfppiedadmbaaGreatDoorWn24
import Derived.Test.YtkpfppiedadmbaaGreatDoorWn23

/-
  The landed package wplus: what hands over the secret of each chain, and a signature's part of each. No statement is proved here. (Written by genwk7.py.)
-/
namespace Go.Proofs.YtkpfppiedadmbaaGreatDoor.S15
set_option linter.unusedSimpArgs false
set_option linter.unusedVariables false
set_option maxRecDepth 1024
open Go.RowKit Go.Shelf
attribute [local go_sem] Oper.semAt_some

theorem chains_any (f : FuncId) (b : Nat) (w : World) :
    Calls Tryz.prog 87 #[.func (.func f) #[] #[.pointer (some ⟨b, 0, none⟩)]] w fun e w' => e = .returned (.func (.func 112) #[] #[.pointer (some ⟨w.heap.size, 0, none⟩)]) ∧ w' = w.alloc (.cells #[.func (.func f) #[] #[.pointer (some ⟨b, 0, none⟩)]] 112) := by
  have hmf : ∀ (fn : Fn) (first cap : Array Value) (w : World), (Instr.makeFunc fn first cap).run Tryz.prog w = .ok (.func fn first cap) w := fun _ _ _ _ => rfl
  go_enter Tryz.func87, Tryz.ntmps87
  go_wp2
  go_ret
  exact ⟨rfl, rfl⟩
/-- What the function value hands over. -/
abbrev encR (k : Nat) (x : Option Addr × Nat) : Array Value := #[.int .i64 (k : Int), .slice x.1 32 x.2]
set_option maxHeartbeats 1000000 in
theorem chains_secrets (m : Nat) (hm : 1 ≤ m) (bc bk : Nat) (U : Nat → List UInt8) (pr : Option Addr → Prop) (ofok : World → Prop)
    (hof : ∀ (X : World) (k : Nat), ofok X → k < 67 → Calls Tryz.prog 88 #[.int .i64 (k : Int), .pointer (some ⟨bk, 0, none⟩)] X fun e X' => ∃ A c, e = .returned (.slice A 32 c) ∧ (Rd X' A 32 c (U k) ∧ pr A) ∧ Below X.heap.size X X') :
    RD.ItW Tryz.prog m 112 #[.pointer (some ⟨bc, 0, none⟩)] encR (fun k x X => Rd X x.1 32 x.2 (U k) ∧ pr x.1) 67 (fun X => Boxed X bc 112 (.func (.func 88) #[] #[.pointer (some ⟨bk, 0, none⟩)]) ∧ ofok X) := by
  intro l J W hJb hJo hY h0
  have HOF := Lib.hid hof
  have HJB := Lib.hid hJb
  have HJO := Lib.hid hJo
  have HY := Lib.hid hY
  clear hof hJb hJo hY
  refine callsIn_of_wp (args := #[.func (.yield l) #[] #[], .pointer (some ⟨bc, 0, none⟩)]) Tryz.func112 rfl trivial ?_ rfl
  simp only [Tryz.ntmps112, List.size_toArray, List.length_cons, List.length_nil, Nat.reduceAdd, Nat.reduceSub, Array.replicate_succ, Array.replicate_zero, List.push_toArray, List.append_toArray, List.nil_append, List.cons_append]
  gi_wp2_with (fail)
  gi_loopw [4] (fun i wr => ∃ j : Nat, j ≤ 67 ∧ i = .int .i64 (j : Int) ∧ J j wr) (fun i _ => 67 - (intOf i).toNat)
  case atStart => exact ⟨0, Nat.zero_le _, rfl, h0⟩
  case round =>
    obtain ⟨j, hj, rfl, hJ⟩ := hrel
    by_cases hlt : j < 67
    · have t0 : (j : Int) < 67 := by omega
      obtain ⟨hbx, hok⟩ := HJO.out _ _ hJ
      have hcell := hbx.cell
      have HC := Lib.hid (HOF.out wr j hok hlt)
      have HJ := Lib.hid hJ
      clear hbx hok hJ h0
      gi_wp2_with (first
        | (refine ⟨trivial, ?_⟩; gi_at_call 88; refine (callsIn_wide.2 HC.out).mono ?_; rintro e w1 ⟨A, c, rfl, r1, b1⟩; obtain ⟨fn, tmps, assign, body, hy, hR⟩ := HY.out j (A, c) w1 (HJB.out _ _ _ HJ.out b1) hlt r1; clear r1 b1)
        | (refine hR.mono ?_; rintro e w2 ⟨rfl, hJ2⟩; have HJ2 := Lib.hid hJ2; clear hJ2)
        | (refine ⟨trivial, ?_⟩; refine hR.mono ?_; rintro e w2 ⟨rfl, hJ2⟩; have HJ2 := Lib.hid hJ2; clear hJ2)
        | (refine ⟨trivial, fun h => (by simp [Fence.wide] at h), ?_⟩; refine hR.mono ?_; rintro e w2 ⟨rfl, hJ2⟩; have HJ2 := Lib.hid hJ2; clear hJ2))
      go_roundw
      case rel => exact ⟨j + 1, by omega, by go_num, HJ2.out⟩
      case measure => simp [intOf]; omega
    · obtain rfl : j = 67 := by omega
      have HJ := Lib.hid hJ
      clear hJ h0
      gi_wp2
      go_end0
      exact ⟨⟨_, rfl⟩, HJ.out⟩
set_option maxHeartbeats 1000000 in
theorem chains_parts (m : Nat) (hm : 1 ≤ m) (bc bk : Nat) (U : Nat → List UInt8) (pr : Option Addr → Prop) (ofok : World → Prop)
    (hof : ∀ (X : World) (k : Nat), ofok X → k < 67 → Calls Tryz.prog 98 #[.int .i64 (k : Int), .pointer (some ⟨bk, 0, none⟩)] X fun e X' => ∃ A c, e = .returned (.slice A 32 c) ∧ (Rd X' A 32 c (U k) ∧ pr A) ∧ Below X.heap.size X X') :
    RD.ItW Tryz.prog m 112 #[.pointer (some ⟨bc, 0, none⟩)] encR (fun k x X => Rd X x.1 32 x.2 (U k) ∧ pr x.1) 67 (fun X => Boxed X bc 112 (.func (.func 98) #[] #[.pointer (some ⟨bk, 0, none⟩)]) ∧ ofok X) := by
  intro l J W hJb hJo hY h0
  have HOF := Lib.hid hof
  have HJB := Lib.hid hJb
  have HJO := Lib.hid hJo
  have HY := Lib.hid hY
  clear hof hJb hJo hY
  refine callsIn_of_wp (args := #[.func (.yield l) #[] #[], .pointer (some ⟨bc, 0, none⟩)]) Tryz.func112 rfl trivial ?_ rfl
  simp only [Tryz.ntmps112, List.size_toArray, List.length_cons, List.length_nil, Nat.reduceAdd, Nat.reduceSub, Array.replicate_succ, Array.replicate_zero, List.push_toArray, List.append_toArray, List.nil_append, List.cons_append]
  gi_wp2_with (fail)
  gi_loopw [4] (fun i wr => ∃ j : Nat, j ≤ 67 ∧ i = .int .i64 (j : Int) ∧ J j wr) (fun i _ => 67 - (intOf i).toNat)
  case atStart => exact ⟨0, Nat.zero_le _, rfl, h0⟩
  case round =>
    obtain ⟨j, hj, rfl, hJ⟩ := hrel
    by_cases hlt : j < 67
    · have t0 : (j : Int) < 67 := by omega
      obtain ⟨hbx, hok⟩ := HJO.out _ _ hJ
      have hcell := hbx.cell
      have HC := Lib.hid (HOF.out wr j hok hlt)
      have HJ := Lib.hid hJ
      clear hbx hok hJ h0
      gi_wp2_with (first
        | (refine ⟨trivial, ?_⟩; gi_at_call 98; refine (callsIn_wide.2 HC.out).mono ?_; rintro e w1 ⟨A, c, rfl, r1, b1⟩; obtain ⟨fn, tmps, assign, body, hy, hR⟩ := HY.out j (A, c) w1 (HJB.out _ _ _ HJ.out b1) hlt r1; clear r1 b1)
        | (refine hR.mono ?_; rintro e w2 ⟨rfl, hJ2⟩; have HJ2 := Lib.hid hJ2; clear hJ2)
        | (refine ⟨trivial, ?_⟩; refine hR.mono ?_; rintro e w2 ⟨rfl, hJ2⟩; have HJ2 := Lib.hid hJ2; clear hJ2)
        | (refine ⟨trivial, fun h => (by simp [Fence.wide] at h), ?_⟩; refine hR.mono ?_; rintro e w2 ⟨rfl, hJ2⟩; have HJ2 := Lib.hid hJ2; clear hJ2))
      go_roundw
      case rel => exact ⟨j + 1, by omega, by go_num, HJ2.out⟩
      case measure => simp [intOf]; omega
    · obtain rfl : j = 67 := by omega
      have HJ := Lib.hid hJ
      clear hJ h0
      gi_wp2
      go_end0
      exact ⟨⟨_, rfl⟩, HJ.out⟩
end Go.Proofs.YtkpfppiedadmbaaGreatDoor.S15

/-
  The landed package wplus: the function values that hand over secrets, and parts of a signature, and what makes them. No statement is proved here.
-/
namespace Go.Proofs.YtkpfppiedadmbaaGreatDoor.S15
set_option linter.unusedSimpArgs false
set_option linter.unusedVariables false
set_option maxRecDepth 1024
open Go.RowKit

/-- What a call gives: 32 bytes that read so. -/
def G32 (xs : List UInt8) (X : World) (e : Ending) (X' : World) : Prop := ∃ A c, e = .returned (.slice A 32 c) ∧ Rd X' A 32 c xs ∧ Below X.heap.size X X'
set_option maxHeartbeats 1000000 in
theorem sec1_core (i bk : Nat) (Ak : Option Addr) (ck : Nat) (b z : List UInt8) (w : World) (hb : Bk w bk 24 #[.slice Ak 32 ck])
    (rw_ : ∀ X, Calls Tryz.prog 89 #[.int .i64 (i : Int)] X (New X.heap.size X b))
    (pf : ∀ X A c, Below w.heap.size w X → Rd X A 32 c b → Calls Tryz.prog 23 #[.slice Ak 32 ck, .slice A 32 c] X (New X.heap.size X z)) (lb : b.length = 32) (lz : z.length = 32) :
    Calls Tryz.prog 88 #[.int .i64 (i : Int), .pointer (some ⟨bk, 0, none⟩)] w (G32 z w) := by
  have RW := Lib.hid rw_
  have PF := Lib.hid pf
  have LB := Lib.hid lb
  have LZ := Lib.hid lz
  have K0 := Lib.hid hb
  have BZ := Lib.hid (Below.refl w.heap.size w)
  clear rw_ pf lb lz hb
  go_enter Tryz.func88, Tryz.ntmps88
  go_upto_region 1 with (fail)
  (go_region_held3 (fun w' => w'.cell? ⟨bk, 0, none⟩ = some (.slice Ak 32 ck))
    (first
      | exact K2.out.cell 0
      | exact K1.out.cell 0
      | exact K0.out.cell 0)
    (first
      | (go_at_call 89; ((with_reducible refine (RW.out _).mono ?_); rintro e w1 ⟨A1, n1, c1, rfl, q1, b1⟩; obtain rfl : n1 = 32 := (own_len q1).symm.trans LB.out; have R1 := Lib.hid (Rd.own q1); have B1 := Lib.hid (BZ.out.drew.trans (b1.mono BZ.out.size)); have K1 := Lib.hid (K0.out.drew.below b1 K0.out.drew.lt); clear q1 b1))
      | (go_at_call 23; ((with_reducible refine (PF.out _ A1 c1 B1.out R1.out).mono ?_); rintro e w2 ⟨A2, n2, c2, rfl, q2, b2⟩; obtain rfl : n2 = 32 := (own_len q2).symm.trans LZ.out; have R2 := Lib.hid (Rd.own q2); have B2 := Lib.hid (B1.out.trans (b2.mono B1.out.size)); have K2 := Lib.hid (K1.out.below b2 K1.out.lt); clear q2 b2))
      | fail))
  go_wp2
  go_ret
  exact ⟨A2, c2, rfl, R2.out, B2.out⟩
theorem sec1_any (i : Nat) (hi : i < 67) (bk : Nat) (Ak : Option Addr) (ck : Nat) (sec : List UInt8) (D : Ad) (w : World) (hk : GK w) (hb : Bk w bk 24 #[.slice Ak 32 ck]) (hr : Rd w Ak 32 ck (prfL sec (adB D 0))) :
    Calls Tryz.prog 88 #[.int .i64 (i : Int), .pointer (some ⟨bk, 0, none⟩)] w (G32 (secL sec D i) w) :=
  sec1_core i bk Ak ck (b32 (UInt8.ofNat i)) (secL sec D i) w hb (fun X => row_any i (by omega) X)
    (fun X A c hX h => prf_any Ak 32 ck _ A 32 c _ X (hk.bel hX) (hr.below hX) h (by omega) (by omega)) (by simp [b32]) (prf_len _ _)
set_option maxHeartbeats 1000000 in
theorem part1_any (i : Nat) (hi : i < 67) (bs : Nat) (Ag : Option Addr) (cg : Nat) (sig : List UInt8) (w : World) (hb : Bk w bs 24 #[.slice Ag 2144 cg]) (hr : Rd w Ag 2144 cg sig) :
    Calls Tryz.prog 98 #[.int .i64 (i : Int), .pointer (some ⟨bs, 0, none⟩)] w fun e w' => ∃ A c, e = .returned (.slice A 32 c) ∧ (Rd w' A 32 c ((sig.drop (32 * i)).take 32) ∧ ∀ a, A = some a → ∃ a0, Ag = some a0 ∧ a.block = a0.block) ∧ Below w.heap.size w w' := by
  have hcap := hr.cap
  obtain ⟨A', hA'⟩ : ∃ A', A' = if cg = 32 * i then Ag else Ag.map (·.add (32 * i)) := ⟨_, rfl⟩
  obtain ⟨c', hc'⟩ : ∃ c', c' = cg - 32 * i := ⟨_, rfl⟩
  have C1 : ∀ W, (Instr.slice 24 (.slice Ag 2144 cg) (some (.int .i64 (32 * (i : Int)))) (some (.int .i64 (32 * ((i : Int) + 1)))) none).run Tryz.prog W = .ok (.slice A' 32 c') W := by
    intro W
    rw [hA', hc']
    exact S2.run_cutSlLH (l' := 32 * i) (m := 32) (by omega) (by omega) (by omega) W
  have C2 : ∀ W, (Instr.sliceAt 24 (.slice Ag 2144 cg) (some (.int .i64 (32 * (i : Int)))) (some (.int .i64 (32 * ((i : Int) + 1)))) none).run Tryz.prog W = .ok (.slice A' 32 c') W := by
    intro W
    rw [hA', hc']
    exact S2.run_cutSlLHAt (l' := 32 * i) (m := 32) (by omega) (by omega) (by omega) W
  have RP := Lib.hid (show Rd w A' 32 c' ((sig.drop (32 * i)).take 32) by
    rw [hA', hc']
    exact (hr.cut (k := 32 * i) (by omega)).take (by omega))
  have T1 : IntKind.i64.wrap (32 * (i : Int)) = 32 * (i : Int) := by rw [IntKind.wrap_i64]; omega
  have T2 : IntKind.i64.wrap ((i : Int) + 1) = (i : Int) + 1 := by rw [IntKind.wrap_i64]; omega
  have T3 : IntKind.i64.wrap (32 * ((i : Int) + 1)) = 32 * ((i : Int) + 1) := by rw [IntKind.wrap_i64]; omega
  have k0 := hb.cell 0
  simp at k0
  have HBL := Lib.hid (show ∀ a, A' = some a → ∃ a0, Ag = some a0 ∧ a.block = a0.block by
    intro a ha
    rw [hA'] at ha
    split at ha
    · exact ⟨a, ha, rfl⟩
    · cases hg : Ag with
      | none => rw [hg] at ha; cases ha
      | some a0 =>
        rw [hg] at ha
        injection ha with ha
        refine ⟨a0, rfl, ?_⟩
        rw [← ha]
        unfold Addr.add
        split <;> rfl)
  clear hb hr hA' hc'
  go_enter Tryz.func98, Tryz.ntmps98
  go_wp2
  go_ret
  exact ⟨A', c', rfl, ⟨RP.out, HBL.out⟩, Below.refl _ _⟩
set_option maxHeartbeats 1000000 in
theorem parts_any (Ag : Option Addr) (cg : Nat) (w : World) :
    Calls Tryz.prog 74 #[.slice Ag 2144 cg] w fun e w' => e = .returned (.func (.func 112) #[] #[.pointer (some ⟨w.heap.size + 1, 0, none⟩)]) ∧ Bk w' w.heap.size 24 #[.slice Ag 2144 cg] ∧ Bk w' (w.heap.size + 1) 112 #[.func (.func 98) #[] #[.pointer (some ⟨w.heap.size, 0, none⟩)]] ∧ Below w.heap.size w w' := by
  have hmf : ∀ (fn : Fn) (first cap : Array Value) (w : World), (Instr.makeFunc fn first cap).run Tryz.prog w = .ok (.func fn first cap) w := fun _ _ _ _ => rfl
  obtain ⟨w0, hw0⟩ : ∃ w0, w.alloc (.cells #[.slice Ag 2144 cg] 24) = w0 := ⟨_, rfl⟩
  have B0 := Lib.hid (show Below w.heap.size w w0 by rw [← hw0]; exact (Below.refl _ _).alloc (Nat.le_refl _) _)
  have G0 := Lib.hid (show Bk w0 w.heap.size 24 #[.slice Ag 2144 cg] by rw [← hw0]; exact Bk.new _ _ _)
  have S0 := Lib.hid (show w0.heap.size = w.heap.size + 1 by rw [← hw0]; simp)
  go_enter Tryz.func74, Tryz.ntmps74
  go_upto_region 1 with (fail)
  clear hw0
  go_wp2_with (go_at_call 87; (refine (chains_any _ _ _).mono ?_); rintro e w1 ⟨rfl, rfl⟩)
  go_ret
  exact ⟨by rw [← S0.out]; rfl, G0.out.alloc _, Bk.newAt _ _ _ _ S0.out, B0.out.alloc B0.out.size _⟩
set_option maxHeartbeats 1000000 in
theorem secrets_core (As : Option Addr) (cs ly tr qq : Nat) (At : Option Addr) (nt ct : Nat) (w : World) (ab key : List UInt8)
    (atc : ∀ X, Calls Tryz.prog 86 #[.agg (lfS As cs ly tr qq), .int .u32 0, .int .i64 0, .int .i64 0] X fun e w' => e = .returned (.agg (qA ly tr qq)) ∧ Below X.heap.size X w')
    (byc : ∀ X, Calls Tryz.prog 85 #[.agg (qA ly tr qq), .int .u32 0] X (New X.heap.size X ab))
    (pfc : ∀ X A c, Below w.heap.size w X → Rd X A 32 c ab → Calls Tryz.prog 23 #[.slice At nt ct, .slice A 32 c] X (New X.heap.size X key)) (la : ab.length = 32) (lk : key.length = 32) :
    Calls Tryz.prog 60 #[.agg (lfS As cs ly tr qq), .slice At nt ct] w fun e w' => ∃ bk bc Ak ck, e = .returned (.func (.func 112) #[] #[.pointer (some ⟨bc, 0, none⟩)]) ∧ w.heap.size ≤ bk ∧ w.heap.size ≤ bc ∧ Bk w' bk 24 #[.slice Ak 32 ck] ∧ Bk w' bc 112 #[.func (.func 88) #[] #[.pointer (some ⟨bk, 0, none⟩)]] ∧ w'.ownsRow w.heap.size 5 1 (.slice Ak 32 ck) 32 (bv key) ∧ Below w.heap.size w w' := by
  have hmf : ∀ (fn : Fn) (first cap : Array Value) (w : World), (Instr.makeFunc fn first cap).run Tryz.prog w = .ok (.func fn first cap) w := fun _ _ _ _ => rfl
  have ATC := Lib.hid atc
  have BYC := Lib.hid byc
  have PFC := Lib.hid pfc
  have LA := Lib.hid la
  have LK := Lib.hid lk
  obtain ⟨g, hg⟩ : ∃ g, w.heap.size = g := ⟨_, rfl⟩
  obtain ⟨w0, hw0⟩ : ∃ w0, w.alloc (.cells (lfS As cs ly tr qq) 85) = w0 := ⟨_, rfl⟩
  have G0 := Lib.hid (show Bk w0 g 85 (lfS As cs ly tr qq) by rw [← hw0, ← hg]; exact Bk.new _ _ _)
  have B0 := Lib.hid (show Below w.heap.size w w0 by rw [← hw0]; exact (Below.refl _ _).alloc (Nat.le_refl _) _)
  obtain ⟨k0, k1, k2, k3⟩ := lfS_cells G0.out
  have HG := Lib.hid hg
  clear atc byc pfc la lk
  go_enter Tryz.func60, Tryz.ntmps60
  go_upto_region 1 with (fail)
  clear hw0 hg
  go_wp2_with (first
    | (go_at_call 86; ((with_reducible refine (ATC.out _).mono ?_); rintro e w1 ⟨rfl, b1⟩; have B1 := Lib.hid (B0.out.trans (b1.mono B0.out.size)); clear b1))
    | (go_at_call 85; ((with_reducible refine (BYC.out _).mono ?_); rintro e w2 ⟨A2, n2, c2, rfl, q2, b2⟩; obtain rfl : n2 = 32 := (own_len q2).symm.trans LA.out; have R2 := Lib.hid (Rd.own q2); have B2 := Lib.hid (B1.out.trans (b2.mono B1.out.size)); clear q2 b2))
    | (go_at_call 23; ((with_reducible refine (PFC.out _ A2 c2 B2.out R2.out).mono ?_); rintro e w3 ⟨A3, n3, c3, rfl, q3, b3⟩; obtain rfl : n3 = 32 := (own_len q3).symm.trans LK.out; have O3 := Lib.hid (own_base q3 B2.out.size); have B3 := Lib.hid (B2.out.trans (b3.mono B2.out.size)); clear q3 b3))
    | (go_at_call 87; (refine (chains_any _ _ _).mono ?_); rintro e w4 ⟨rfl, rfl⟩))
  go_ret
  exact ⟨w3.heap.size, w3.heap.size + 1, A3, c3, rfl, B3.out.size, Nat.le_trans B3.out.size (Nat.le_succ _), (Bk.new _ _ _).alloc _, Bk.newAt _ _ _ _ (by simp), own_below (own_below O3.out ((Below.refl _ _).alloc (Nat.le_refl _) _)) ((Below.refl _ _).alloc (Nat.le_refl _) _), (B3.out.alloc B3.out.size _).alloc (Nat.le_trans B3.out.size (by simp)) _⟩
theorem secrets_any (As : Option Addr) (cs ly tr qq : Nat) (At : Option Addr) (ct : Nat) (sec : List UInt8) (w : World) (hk : GK w) (hr : Rd w At 32 ct sec) (h1 : ly < 4294967296) (h2 : tr < 18446744073709551616) (h3 : qq < 4294967296) :
    Calls Tryz.prog 60 #[.agg (lfS As cs ly tr qq), .slice At 32 ct] w fun e w' => ∃ bk bc Ak ck, e = .returned (.func (.func 112) #[] #[.pointer (some ⟨bc, 0, none⟩)]) ∧ w.heap.size ≤ bk ∧ w.heap.size ≤ bc ∧ Bk w' bk 24 #[.slice Ak 32 ck] ∧ Bk w' bc 112 #[.func (.func 88) #[] #[.pointer (some ⟨bk, 0, none⟩)]] ∧ w'.ownsRow w.heap.size 5 1 (.slice Ak 32 ck) 32 (bv (prfL sec (adB (adQ ly tr qq) 0))) ∧ Below w.heap.size w w' :=
  secrets_core As cs ly tr qq At 32 ct w (adB (adQ ly tr qq) 0) _ (fun X => at_any As cs ly tr qq 0 0 0 (by omega) (by omega) X) (fun X => bytes_any (adQ ly tr qq) ⟨h1, h2, by show 0 < _; omega, h3, by show 0 < _; omega, by show 0 < _; omega⟩ 0 (by omega) X)
    (fun X A c hX h => prf_any At 32 ct sec A 32 c _ X (hk.bel hX) (hr.below hX) h (by omega) (by omega)) (adB_len _ _) (prf_len _ _)
end Go.Proofs.YtkpfppiedadmbaaGreatDoor.S15

/-
  The landed package wplus: what holds while chains are gone through. No statement is proved here.
-/
namespace Go.Proofs.YtkpfppiedadmbaaGreatDoor.S15
set_option linter.unusedSimpArgs false
set_option linter.unusedVariables false
set_option maxRecDepth 1024
open Go.RowKit RD

/-- Of what lay below n all cells but block E are as they were. -/
structure KE (n E : Nat) (X Y : World) : Prop where
  size : X.heap.size ≤ Y.heap.size
  same : ∀ (k : Nat) (o : Obj), k < n → k ≠ E → X.heap[k]? = some o → o.isCells = true → Y.heap[k]? = some o
section
variable {n E : Nat} {X Y Z : World}
theorem KE.refl (X : World) : KE n E X X := ⟨Nat.le_refl _, fun _ _ _ _ h _ => h⟩
theorem KE.trans (h : KE n E X Y) (k : KE n E Y Z) : KE n E X Z := ⟨Nat.le_trans h.size k.size, fun i o h1 h2 h3 h4 => k.same i o h1 h2 (h.same i o h1 h2 h3 h4) h4⟩
theorem KE.ck (h : CK X Y) : KE n E X Y := ⟨h.size, fun k o _ _ h1 h2 => h.same k o h1 h2⟩
theorem KE.bel (h : Below X.heap.size X Y) : KE n E X Y := ⟨h.size, fun k o _ _ h1 _ => below_at h h1⟩
theorem KE.grown {row : Option Nat} (h : X.grownBy Y row) (hr : ∀ r, row = some r → n ≤ r) : KE n E X Y :=
  ⟨h.size, fun k o h1 _ h3 _ => (h.block k (Array.getElem?_eq_some_iff.1 h3).1 fun e => by have := hr k e.symm; omega).trans h3⟩
theorem KE.set (X : World) (i : Nat) (v : Value) : KE n E X (X.setCell ⟨E, i, none⟩ v) :=
  ⟨by simp, fun k o _ h2 h3 _ => (Below.heap_setCell X ⟨E, i, none⟩ v k h2).trans h3⟩
theorem KE.bk (h : KE n E X Y) {g : Nat} {t : TypeId} {cs : Array Value} (hb : Bk X g t cs) (h1 : g < n) (h2 : g ≠ E) : Bk Y g t cs := h.same _ _ h1 h2 hb rfl
theorem KE.cell (h : KE n E X Y) {p : Addr} {v : Value} (hp : X.cell? p = some v) (h1 : p.block < n) (h2 : p.block ≠ E) : Y.cell? p = some v := by
  obtain ⟨o, ho, hoc⟩ := cells_of hp
  exact (World.cell?_of_block ((h.same _ o h1 h2 ho hoc).trans ho.symm)).trans hp
theorem KE.rd (h : KE n E X Y) {A : Option Addr} {m c : Nat} {xs : List UInt8} (hr : Rd X A m c xs) (ha : ∀ a, A = some a → a.block < n ∧ a.block ≠ E) : Rd Y A m c xs := by
  refine ⟨hr.len, hr.cap, hr.max, hr.nil, fun hn => ?_⟩
  obtain ⟨b, off, rfl, hb, hc⟩ := hr.at_ hn
  obtain ⟨h1, h2⟩ := ha _ rfl
  refine ⟨b, off, rfl, Nat.lt_of_lt_of_le hb h.size, fun j hj => ?_⟩
  have hcell := hc j hj
  obtain ⟨o, ho, hoc⟩ := cells_of (hcell : X.cell? ⟨b, off + j, none⟩ = _)
  exact (World.cell?_of_block (a := ⟨b, off + j, none⟩) ((h.same _ o h1 h2 ho hoc).trans ho.symm)).trans hcell
end
theorem Rows.ck {X Y : World} {B k : Nat} {v : Value} {vs : List Value} {xss : List (List UInt8)} (h : Rows X B v k vs xss) (hc : CK X Y) : Rows Y B v k vs xss :=
  ⟨hc.own h.own, h.len, fun j hj => by
    obtain ⟨A, c, h1, h2, h3⟩ := h.row j hj
    exact ⟨A, c, h1, hc.rd h2, h3⟩⟩
/-- A box far below is set. -/
theorem rd_farBk {w : World} {A : Option Addr} {n c g : Nat} {xs : List UInt8} {T : TypeId} {v : Value} (h : Rd w A n c xs) (hG : Bk w g T #[v]) (hv : ∀ x : UInt8, v ≠ .int .u8 (x.toNat : Int)) (i : Nat) (u : Value) : Rd (w.setCell ⟨g, i, none⟩ u) A n c xs := by
  refine ⟨h.len, h.cap, h.max, h.nil, fun hn => ?_⟩
  obtain ⟨b, off, rfl, hb, hc⟩ := h.at_ hn
  have hne : b ≠ g := by
    rintro rfl
    have h0 := hc 0 hn
    rw [hG.cell] at h0
    rcases Nat.eq_zero_or_pos off with rfl | hp
    · simp at h0
      exact hv _ h0
    · simp [show off ≠ 0 by omega] at h0
  refine ⟨b, off, rfl, by simpa using hb, fun j hj => ?_⟩
  exact (World.cell?_of_block (Below.heap_setCell w ⟨g, i, none⟩ u b hne)).trans (hc j hj)
theorem Rows.setBk {w : World} {B k g : Nat} {v u0 : Value} {vs : List Value} {xss : List (List UInt8)} {T : TypeId} (h : Rows w B v k vs xss) (hG : Bk w g T #[u0]) (hv : ∀ x : UInt8, u0 ≠ .int .u8 (x.toNat : Int)) (hg : g < B) (i : Nat) (u : Value) : Rows (w.setCell ⟨g, i, none⟩ u) B v k vs xss :=
  ⟨ownsRow_setCell_below h.own hg u, h.len, fun j hj => by
    obtain ⟨A, c, h1, h2, h3⟩ := h.row j hj
    exact ⟨A, c, h1, rd_farBk h2 hG hv i u, h3⟩⟩
/-- While the ends are put one behind another. -/
structure LI (w wL : World) (E : Nat) (N : List (List UInt8)) (k : Nat) (X : World) : Prop where
  ke : KE wL.heap.size E wL X
  bel : Below w.heap.size w X
  ends : ∃ v vs, Bk X E 61 #[v] ∧ Rows X wL.heap.size v k vs (N.take k)
theorem LI.own {w wL : World} {E : Nat} {N : List (List UInt8)} (hw : w.heap.size ≤ wL.heap.size) : OwnFrom wL.heap.size (LI w wL E N) := by
  intro k X Y row hs hg hr
  have hc : CK X Y := CK.of hg fun r e => (hr r e).2
  obtain ⟨v, vs, h1, h2⟩ := hs.ends
  exact ⟨hs.ke.trans (KE.ck hc), hs.bel.grown hg hs.bel.size (fun j e => Nat.le_trans hw (hr j e).1), v, vs, hc.bk h1, h2.ck hc⟩
/-- One more end. -/
theorem LI.step {w wL W X1 X3 : World} {E k : Nat} {N : List (List UInt8)} {z : List UInt8} {v : Value} {vs : List Value} {A5 : Option Addr} {c5 gg cap : Nat} (hw : w.heap.size ≤ E) (hEL : E < wL.heap.size) (hI : LI w wL E N k W) (hE : Bk W E 61 #[v]) (hR : Rows W wL.heap.size v k vs (N.take k))
    (hb : Below W.drew.heap.size W.drew X1) (r5 : Rd X1 A5 32 c5 z) (hx : N.take (k + 1) = N.take k ++ [z]) (hne : ∀ a, A5 = some a → v.ownBlock ≠ some a.block)
    (ho : X3.ownsRow wL.heap.size 24 1 (.slice (some ⟨gg, 0, none⟩) (k + 1) cap) (k + 1) (vs ++ [.slice A5 32 c5])) (hg : (X1.alloc (.cells #[.slice A5 32 c5] 24)).grownBy X3 v.ownBlock) (hat : v.ownBlock = some gg ∨ gg = X1.heap.size + 1) :
    KeepsFrom wL.heap.size W (X3.setCell ⟨E, 0, none⟩ (.slice (some ⟨gg, 0, none⟩) (k + 1) cap)) ∧ LI w wL E N (k + 1) (X3.setCell ⟨E, 0, none⟩ (.slice (some ⟨gg, 0, none⟩) (k + 1) cap)) := by
  have hb1 : Below W.heap.size W X1 := (Below.refl _ _).drew.trans hb
  have hb2 : Below W.heap.size W (X1.alloc (.cells #[.slice A5 32 c5] 24)) := hb1.alloc hb1.size _
  have hrow : ∀ r, v.ownBlock = some r → wL.heap.size ≤ r := fun r e => (hR.own.lt r e).1
  have hlt : ∀ r, v.ownBlock = some r → r < W.heap.size := fun r e => (hR.own.lt r e).2
  have hE2 : Bk (X1.alloc (.cells #[.slice A5 32 c5] 24)) E 61 #[v] := hE.below hb2 hE.lt
  have hE3 : Bk X3 E 61 #[v] := hE2.only hg (fun e => by have := hrow E e.symm; omega)
  have hR1 := hR.below hb1
  have hr3 : Rows X3 wL.heap.size (.slice (some ⟨gg, 0, none⟩) (k + 1) cap) (k + 1) (vs ++ [.slice A5 32 c5]) (N.take (k + 1)) := by
    rw [hx]
    exact (hR1.alloc _).push ho hg (by simpa using hat) (r5.alloc _) hne
  have hs2 := hg.size
  have hs1 := hb2.size
  refine ⟨⟨by simp; omega, fun j o hj h1 h2 => ?_⟩, ?_, ?_, ?_⟩
  · have h3 : (X1.alloc (.cells #[.slice A5 32 c5] 24)).heap[j]? = some o := below_at hb2 h1
    have h4 : X3.heap[j]? = some o := by
      refine (hg.block j (Array.getElem?_eq_some_iff.1 h3).1 fun e => ?_).trans h3
      rcases hR.own.2 with ⟨rfl, _⟩ | ⟨g, cap', cur, hv, _, hh, _⟩
      · simp [Value.ownBlock] at e
      · rw [hv] at e
        have e1 : g = j := by simpa [Value.ownBlock] using e.symm
        subst e1
        rw [h1] at hh
        cases hh
        cases h2
    refine (Below.heap_setCell X3 ⟨E, 0, none⟩ _ j (by show j ≠ E; omega)).trans h4
  · exact ((hI.ke.trans (KE.bel hb2)).trans (KE.grown hg hrow)).trans (KE.set _ _ _)
  · refine ((hI.bel.trans (hb2.mono hI.bel.size)).grown hg (Nat.le_trans hI.bel.size hs1) (fun r e => ?_)).setCell (p := ⟨E, 0, none⟩) hw _
    have := hrow r e
    omega
  · exact ⟨_, _, hE3.put 0 _, hr3.setBk hE3 (by
      rcases hR.own.2 with ⟨rfl, _⟩ | ⟨g, cap', cur, rfl, _⟩ <;> (intro x e; cases e)) hEL 0 _⟩
theorem lf_keep {n E d : Nat} {X Y : World} {As : Option Addr} {cs ly tr qq : Nat} (h : KE n E X Y) (hd : Bk X d 85 (lfS As cs ly tr qq)) (h1 : d < n) (h2 : d ≠ E) : Y.cell? ⟨d, 0, none⟩ = some (.slice As 32 cs) ∧ Y.cell? ⟨d, 1, none⟩ = some (.int .u32 (ly : Int)) ∧ Y.cell? ⟨d, 2, none⟩ = some (.int .u64 (tr : Int)) ∧ Y.cell? ⟨d, 3, none⟩ = some (.int .u32 (qq : Int)) := lfS_cells (h.bk hd h1 h2)
theorem up_new (As : Option Addr) (cs ly tr qq : Nat) (i from' to : Nat) (hi : i < 2147483648) (hto : to < 2147483648) (sd : List UInt8) (Ax : Option Addr) (cx : Nat) (xs : List UInt8) (w : World) (hk : GK w) (hs : Rd w As 32 cs sd) (hx : Rd w Ax 32 cx xs) (hf : from' < to) (h1 : ly < 4294967296) (h2 : tr < 18446744073709551616) (h3 : qq < 4294967296) :
    Calls Tryz.prog 61 #[.agg (lfS As cs ly tr qq), .int .i64 (i : Int), .int .i64 (from' : Int), .int .i64 (to : Int), .slice Ax 32 cx] w fun e w' => ∃ A c, e = .returned (.slice A 32 c) ∧ Rd w' A 32 c (upL sd (adQ ly tr qq) i from' (to - from') xs) ∧ (∀ a, A = some a → w.heap.size ≤ a.block) ∧ Below w.heap.size w w' := by
  refine (up_core As cs ly tr qq i from' to hi hto sd Ax cx xs w hx (by omega) _ (fun j n ys => upL sd (adQ ly tr qq) i j n ys) (fun X j hj => at_any As cs ly tr qq 0 i j hi hj X)
    (fun X j A c ys hX hj h => f_any (adK ly tr qq 0 i j) ⟨h1, h2, by show 0 < _; omega, h3, by show i < _; omega, by show j < _; omega⟩ As cs sd A c ys X (hk.bel hX) (hs.below hX) h) rfl (fun j n ys => rfl) (fun j ys => rfl)).mono ?_
  rintro e w' ⟨A, c, he, hr, hn, ho, hb⟩
  refine ⟨A, c, he, hr, fun a ha => ?_, hb⟩
  obtain ⟨B, hB, hown⟩ := hn hf
  rw [ha] at hown
  have := (hown.lt a.block rfl).1
  omega
end Go.Proofs.YtkpfppiedadmbaaGreatDoor.S15
