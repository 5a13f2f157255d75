/-
  Texts put together: XmH, XmI, XmJ, Yf4, XmN, WpA. No statement is proved here.
-/
import Derived.Test.YtkpfppiedadmbaaGreatDoorWo36
import Derived.Test.YtkpfppiedadmbaaGreatDoorWo31
import Derived.Test.YtkpfppiedadmbaaGreatDoorWo15
import Derived.Test.YtkpfppiedadmbaaGreatDoorWo30

/-
  The landed package xmss: whether any signature fits. No statement is proved here.
-/
namespace Go.Proofs.YtkpfppiedadmbaaGreatDoor.S16
set_option linter.unusedSimpArgs false
set_option linter.unusedVariables false
set_option maxRecDepth 1024
open Go.RowKit S15

theorem fits_any (L H : Int) (Ap : Option Addr) (np cp : Nat) (pub : List UInt8) (At : Option Addr) (nt ct : Nat) (text : List UInt8) (Ag : Option Addr) (ng cg : Nat) (sig : List UInt8) (w : World) (hk : GK w) (hp : Rd w Ap np cp pub) (ht : Rd w At nt ct text) (hg : Rd w Ag ng cg sig) :
    Calls Tryz.prog 14 #[.agg (shA L H), .slice Ap np cp, .slice At nt ct, .slice Ag ng cg] w (GivesB (fitX L H pub text sig) w) := by
  by_cases hm : mayX L H = true
  · obtain ⟨l, k, rfl, rfl, h1, h2, h3, h4, h5⟩ := mayX_nat hm
    by_cases hc : np = 64 ∧ ng = sizeN l k ∧ nt ≤ 65536
    · obtain ⟨rfl, rfl, h6⟩ := hc
      have e : fitX l k pub text sig = fitN l k pub text sig := by
        rw [fitX, if_pos ⟨hm, hp.len, hg.len, by rw [ht.len]; exact h6⟩]
        rfl
      rw [e]
      have hA : Ahead w l k Ap cp pub At nt ct text Ag cg (sizeN l k) sig := ⟨hk, hp, ht, hg, hm, rfl, h6⟩
      by_cases hn : getL (sig.take 8) < totN l k
      · exact fits_may l k Ap cp pub At nt ct text Ag cg _ sig w hA hn
      · have e2 : fitN l k pub text sig = false := by simp [fitN, hn]
        rw [e2]
        exact fits_beyond l k Ap cp pub At nt ct text Ag cg _ sig w hA (by omega)
    · have e : fitX l k pub text sig = false := by
        rw [fitX, if_neg]
        rintro ⟨_, q1, q2, q3⟩
        exact hc ⟨hp.len.symm.trans q1, hg.len.symm.trans q2, by rw [← ht.len]; exact q3⟩
      rw [e]
      exact fits_not l k Ap np cp At nt ct Ag ng cg w (by rw [sizeX_may hm]; omega)
  · have e : fitX L H pub text sig = false := by rw [fitX, if_neg fun c => hm c.1]
    rw [e]
    exact fits_not L H Ap np cp At nt ct Ag ng cg w (.inl (by simpa using hm))
end Go.Proofs.YtkpfppiedadmbaaGreatDoor.S16

/-
  The landed package xmss: a signature's parts in plain words, and what holds while they are put together. No statement is proved here.
-/
namespace Go.Proofs.YtkpfppiedadmbaaGreatDoor.S16
set_option linter.unusedSimpArgs false
set_option linter.unusedVariables false
set_option maxRecDepth 1024
open Go.RowKit S15 RD

/-- What each layer signs. -/
def ofN (sec sd : List UInt8) (h n : Nat) (tx : List UInt8) : Nat → List UInt8
  | 0 => tx
  | k + 1 => sumT sec sd k (nT h n (k + 1)) h 0
/-- A layer's parts: the leaf's signature, and its way. -/
def blkR (sec sd : List UInt8) (h n : Nat) (tx : List UInt8) (k : Nat) : Nat → List UInt8
  | 0 => signL sec sd (adQ k (nT h n (k + 1)) (nT h n k % 2 ^ h)) (ofN sec sd h n tx k)
  | r + 1 => sumT sec sd k (nT h n (k + 1)) r (sib (nT h n k % 2 ^ h / 2 ^ r))
def partR (sec salt sd : List UInt8) (h n : Nat) (tx : List UInt8) : Nat → List UInt8
  | 0 => putL n 8
  | 1 => salt
  | i + 2 => blkR sec sd h n tx (i / (h + 1)) (i % (h + 1))
theorem cat_congr {U V : Nat → List UInt8} : ∀ m, (∀ i, i < m → U i = V i) → cat U m = cat V m
  | 0, _ => rfl
  | m + 1, h => by rw [cat, cat, cat_congr m fun i hi => h i (by omega), h m (by omega)]
theorem cat_add (U : Nat → List UInt8) (a : Nat) : ∀ m, cat U (a + m) = cat U a ++ cat (fun i => U (a + i)) m
  | 0 => by simp [cat]
  | m + 1 => by rw [← Nat.add_assoc, cat, cat_add U a m, cat, List.append_assoc]
theorem cat_cons (U : Nat → List UInt8) (m : Nat) : cat U (m + 1) = U 0 ++ cat (fun i => U (i + 1)) m := by
  rw [Nat.add_comm m 1, cat_add U 1 m]
  simp [cat, Nat.add_comm]
theorem way_cat (sec sd : List UInt8) (ly tr : Nat) : ∀ m g i, cat (fun r => sumT sec sd ly tr (g + r) (sib (i / 2 ^ r))) m = wayF sec sd ly tr g m i
  | 0, g, i => rfl
  | m + 1, g, i => by
    rw [cat_cons, wayF, ← way_cat sec sd ly tr m (g + 1) (i / 2)]
    simp only [Nat.add_zero, Nat.pow_zero, Nat.div_one]
    congr 1
    refine cat_congr m fun r _ => ?_
    rw [Nat.div_div_eq_div_mul, show 2 * 2 ^ r = 2 ^ (r + 1) by rw [Nat.pow_succ]; omega, show g + (r + 1) = g + 1 + r by omega]
theorem blk_cat (sec sd : List UInt8) (h n : Nat) (tx : List UInt8) (k : Nat) : cat (blkR sec sd h n tx k) (h + 1) = signL sec sd (adQ k (nT h n (k + 1)) (nT h n k % 2 ^ h)) (ofN sec sd h n tx k) ++ wayF sec sd k (nT h n (k + 1)) 0 h (nT h n k % 2 ^ h) := by
  rw [cat_cons, ← way_cat]
  simp only [blkR]
  congr 1
  refine cat_congr h fun r _ => ?_
  rw [Nat.zero_add]
theorem layers_cat (sec sd : List UInt8) (h n : Nat) (tx : List UInt8) : ∀ m k, cat (fun j => blkR sec sd h n tx (k + j / (h + 1)) (j % (h + 1))) (m * (h + 1)) = signF sec sd h k m (nT h n k) (ofN sec sd h n tx k)
  | 0, k => by simp [cat, signF]
  | m + 1, k => by
    rw [show (m + 1) * (h + 1) = (h + 1) + m * (h + 1) by rw [Nat.succ_mul]; omega, cat_add, signF, ← nT_succ]
    have e1 : cat (fun j => blkR sec sd h n tx (k + j / (h + 1)) (j % (h + 1))) (h + 1) = cat (blkR sec sd h n tx k) (h + 1) := cat_congr _ fun i hi => by
      rw [Nat.div_eq_of_lt hi, Nat.mod_eq_of_lt hi, Nat.add_zero]
    have e2 : cat (fun i => blkR sec sd h n tx (k + (h + 1 + i) / (h + 1)) ((h + 1 + i) % (h + 1))) (m * (h + 1)) = cat (fun j => blkR sec sd h n tx (k + 1 + j / (h + 1)) (j % (h + 1))) (m * (h + 1)) := cat_congr _ fun i _ => by
      rw [Nat.add_mod_left, Nat.add_div_left _ (by omega), show k + (i / (h + 1)).succ = k + 1 + i / (h + 1) by omega]
    rw [e1, e2, blk_cat, layers_cat sec sd h n tx m (k + 1), List.append_assoc]
    rfl
/-- All parts, one behind the other. -/
theorem parts_cat (sec salt sd : List UInt8) (h n l : Nat) (tx : List UInt8) : cat (partR sec salt sd h n tx) (2 + l * (h + 1)) = [putL n 8, salt].flatten ++ signF sec sd h 0 l n tx := by
  rw [cat_add]
  have e1 : cat (partR sec salt sd h n tx) 2 = [putL n 8, salt].flatten := by simp [cat, partR]
  have e2 : cat (fun i => partR sec salt sd h n tx (2 + i)) (l * (h + 1)) = cat (fun j => blkR sec sd h n tx (0 + j / (h + 1)) (j % (h + 1))) (l * (h + 1)) := cat_congr _ fun i _ => by
    rw [Nat.add_comm 2 i, partR, Nat.zero_add]
  rw [e1, e2, layers_cat sec sd h n tx l 0, nT_zero]
  rfl
theorem part_sig (sec salt sd : List UInt8) (h n : Nat) (tx : List UInt8) (k : Nat) : partR sec salt sd h n tx (2 + k * (h + 1)) = signL sec sd (adQ k (nT h n (k + 1)) (nT h n k % 2 ^ h)) (ofN sec sd h n tx k) := by
  rw [Nat.add_comm, partR, Nat.mul_div_cancel _ (by omega), Nat.mul_mod_left]
  rfl
theorem part_way (sec salt sd : List UInt8) (h n : Nat) (tx : List UInt8) (k r : Nat) (hr : r < h) : partR sec salt sd h n tx (2 + k * (h + 1) + 1 + r) = sumT sec sd k (nT h n (k + 1)) r (sib (nT h n k % 2 ^ h / 2 ^ r)) := by
  rw [show 2 + k * (h + 1) + 1 + r = (k * (h + 1) + (r + 1)) + 2 by omega, partR]
  have e1 : (k * (h + 1) + (r + 1)) / (h + 1) = k := by
    rw [Nat.mul_comm, Nat.mul_add_div (by omega), Nat.div_eq_of_lt (by omega), Nat.add_zero]
  have e2 : (k * (h + 1) + (r + 1)) % (h + 1) = r + 1 := by
    rw [Nat.mul_comm, Nat.mul_add_mod, Nat.mod_eq_of_lt (by omega)]
  rw [e1, e2, blkR]
/-- A slice of rows, read. -/
theorem sl_rows {f : Nat → List UInt8} {w : World} {S : Nat → Prop} {A : Option Addr} {n c : Nat} (h : Sl (rowE f) w S A n c) : RdBs w A n c ((List.range n).map f) :=
  ⟨by simp, h.cap, h.max, h.nil, fun hn => by
    obtain ⟨b, off, e, hb, _, hc⟩ := h.at_ hn
    refine ⟨b, off, e, hb, fun j hj => ?_⟩
    obtain ⟨u, h1, A', n', c', rfl, h2, _⟩ := hc j hj
    exact ⟨A', n', c', h1, by simpa [hj] using h2⟩⟩
/-- The trees of an index, layer by layer. -/
abbrev treesE (sec sd : List UInt8) (h n : Nat) : El := slE (fun _ => h + 1) (fun k => treeE sec sd k (nT h n (k + 1)) h)
theorem treesE_fp (sec sd : List UInt8) (h n : Nat) : FP (treesE sec sd h n) := slE_fp fun k => treeE_fp _ _ _ _ _
/-- While trees are put one behind another. -/
structure TI (w wL : World) (sec sd : List UInt8) (h n ET bn k z : Nat) (X : World) : Prop where
  ke : KX wL.heap.size (fun b => b = ET ∨ b = bn) wL X
  bel : Below w.heap.size w X
  box : Bk X bn 27 #[.int .u64 ((nT h n k : Nat) : Int)]
  got : ∃ v vs, Bk X ET 47 #[v] ∧ Gr (treesE sec sd h n) 54 X wL.heap.size v k k vs ∧ ∀ b, v.ownBlock = some b → b < z
theorem TI.own {w wL : World} {sec sd : List UInt8} {h n ET bn : Nat} (hw : w.heap.size ≤ wL.heap.size) : OwnFrom wL.heap.size (fun (s : Nat × Nat) X => TI w wL sec sd h n ET bn s.1 s.2 X) := by
  intro s X Y row hs hg hr
  have hc : CK X Y := CK.of hg fun r e => (hr r e).2
  obtain ⟨v, vs, h1, h2, h3⟩ := hs.got
  exact ⟨hs.ke.trans (KX.grown hg hs.ke.size fun r e => (hr r e).1), hs.bel.grown hg hs.bel.size (fun j e => Nat.le_trans hw (hr j e).1), hc.bk hs.box, v, vs, hc.bk h1, h2.ck (treesE_fp _ _ _ _) hc, h3⟩
/-- While parts are put one behind another. -/
structure PI (w wL : World) (sec salt sd : List UInt8) (h n ES EP bn dP : Nat) (tx : List UInt8) (k z : Nat) (X : World) : Prop where
  ke : KX wL.heap.size (fun b => b = ES ∨ b = EP ∨ b = bn ∨ b = dP) wL X
  bel : Below w.heap.size w X
  box : Bk X bn 27 #[.int .u64 ((nT h n k : Nat) : Int)]
  sum : ∃ A c, Bk X ES 24 #[.slice A 32 c] ∧ Rd X A 32 c (ofN sec sd h n tx k) ∧ ∀ a, A = some a → a.block < ES
  got : ∃ v vs, Bk X EP 61 #[v] ∧ Gr (rowE (partR sec salt sd h n tx)) 24 X w.heap.size v (2 + k * (h + 1)) (2 + k * (h + 1)) vs ∧ ∀ b, v.ownBlock = some b → b < z ∧ (b = dP ∨ wL.heap.size ≤ b)
theorem PI.own {w wL : World} {sec salt sd : List UInt8} {h n ES EP bn dP : Nat} {tx : List UInt8} (hw : w.heap.size ≤ wL.heap.size) : OwnFrom wL.heap.size (fun (s : Nat × Nat) X => PI w wL sec salt sd h n ES EP bn dP tx s.1 s.2 X) := by
  intro s X Y row hs hg hr
  have hc : CK X Y := CK.of hg fun r e => (hr r e).2
  obtain ⟨v, vs, h1, h2, h3⟩ := hs.got
  obtain ⟨A, c, h4, h5, h6⟩ := hs.sum
  exact ⟨hs.ke.trans (KX.grown hg hs.ke.size fun r e => (hr r e).1), hs.bel.grown hg hs.bel.size (fun j e => Nat.le_trans hw (hr j e).1), hc.bk hs.box, ⟨A, c, hc.bk h4, hc.rd h5, h6⟩, v, vs, hc.bk h1, h2.ck (rowE_fp _) hc, h3⟩
end Go.Proofs.YtkpfppiedadmbaaGreatDoor.S16

/-
  The landed package xmss: a signature, where there is none. No statement is proved here.
-/
namespace Go.Proofs.YtkpfppiedadmbaaGreatDoor.S16
set_option linter.unusedSimpArgs false
set_option linter.unusedVariables false
set_option maxRecDepth 1024
open Go.RowKit S15

/-- A row and a code. -/
def GivesS (w : World) (xs : List UInt8) (code : Nat) (e : Ending) (w' : World) : Prop := ∃ (A : Option Addr) (c : Nat), e = .returned (.tuple #[.slice A xs.length c, .int .i64 (code : Int)]) ∧ Rd w' A xs.length c xs ∧ Below w.heap.size w w'
theorem givesS_nil {w w' : World} {code : Nat} (hb : Below w.heap.size w w') : GivesS w [] code (.returned (.tuple #[.slice none 0 0, .int .i64 (code : Int)])) w' := ⟨none, 0, rfl, Rd.nil_ _, hb⟩
set_option maxHeartbeats 1000000 in
theorem sign_arg (L H : Int) (As : Option Addr) (ns cs : Nat) (Al : Option Addr) (nl cl : Nat) (Ae : Option Addr) (ne ce : Nat) (n : Nat) (At : Option Addr) (nt ct : Nat) (w : World) (hm : madeX L H ns nl ne = false ∨ 65536 < nt) :
    Calls Tryz.prog 7 #[.agg (shA L H), .agg (mkA As ns cs Al nl cl Ae ne ce), .int .u64 (n : Int), .slice At nt ct] w (GivesS w [] 1) := by
  have CM := Lib.hid (show ∀ X, Calls Tryz.prog 20 #[.agg #[.int .i64 L, .int .i64 H], .agg #[.slice As ns cs, .slice Al nl cl, .slice Ae ne ce]] X (GivesB (madeX L H ns nl ne) X) from fun X => canMake_any L H As ns cs Al nl cl Ae ne ce X)
  obtain ⟨g, hg⟩ : ∃ g, w.heap.size = g := ⟨_, rfl⟩
  obtain ⟨m1, m2, b0⟩ := sh_m (w := w) (L := L) (H := H) (As := As) (ns := ns) (cs := cs) (Al := Al) (nl := nl) (cl := cl) (Ae := Ae) (ne := ne) (ce := ce) hg
  obtain ⟨w0, hw0⟩ : ∃ w0, (w.alloc (.cells (shA L H) 23)).alloc (.cells (mkA As ns cs Al nl cl Ae ne ce) 26) = w0 := ⟨_, rfl⟩
  rw [hw0] at m1 m2 b0
  obtain ⟨k0, k1, k2, k3, k4⟩ := cells5 m1 m2
  have B0 := Lib.hid b0
  clear m1 m2 b0
  by_cases c : madeX L H ns nl ne = true
  · have t4 : (65536 : Int) < (nt : Int) := by
      rcases hm with h | h
      · rw [c] at h; cases h
      · omega
    rw [c] at CM
    clear c hm
    go_enter Tryz.func7, Tryz.ntmps7
    go_upto_region 1 with (fail)
    clear hw0 hg
    go_wp2_with (go_at_call 20; ((with_reducible refine (CM.out _).mono ?_); rintro e w1 ⟨rfl, b1⟩; have B1 := Lib.hid (B0.out.trans (b1.mono B0.out.size)); clear b1))
    go_ret2
    exact givesS_nil B1.out
  · have c : madeX L H ns nl ne = false := by simpa using c
    rw [c] at CM
    clear c hm
    go_enter Tryz.func7, Tryz.ntmps7
    go_upto_region 1 with (fail)
    clear hw0 hg
    go_wp2_with (go_at_call 20; ((with_reducible refine (CM.out _).mono ?_); rintro e w1 ⟨rfl, b1⟩; have B1 := Lib.hid (B0.out.trans (b1.mono B0.out.size)); clear b1))
    go_ret2
    exact givesS_nil B1.out
set_option maxHeartbeats 1000000 in
theorem sign_out (l k : Nat) (As : Option Addr) (cs : Nat) (Al : Option Addr) (cl : Nat) (Ae : Option Addr) (ce : Nat) (n : Nat) (At : Option Addr) (nt ct : Nat) (w : World) (hm : madeX l k 32 32 32 = true) (ht : nt ≤ 65536) (hn : totN l k ≤ n) :
    Calls Tryz.prog 7 #[.agg (shA l k), .agg (mkA As 32 cs Al 32 cl Ae 32 ce), .int .u64 (n : Int), .slice At nt ct] w (GivesS w [] 9) := by
  have CM := Lib.hid (show ∀ X, Calls Tryz.prog 20 #[.agg #[.int .i64 (l : Int), .int .i64 (k : Int)], .agg #[.slice As 32 cs, .slice Al 32 cl, .slice Ae 32 ce]] X (GivesB true X) from fun X => by rw [← hm]; exact canMake_any l k As 32 cs Al 32 cl Ae 32 ce X)
  obtain ⟨T, hT⟩ : ∃ T, T = totN l k := ⟨_, rfl⟩
  have HTT := Lib.hid (show ∀ X, Calls Tryz.prog 17 #[.agg #[.int .i64 (l : Int), .int .i64 (k : Int)]] X (GivesV (.int .u64 (T : Int)) X) from fun X => by rw [hT, totN, ← totX_may (madeX_iff.1 hm).1 rfl]; exact tot_any l k X)
  rw [← hT] at hn
  have t2 : ¬ (65536 : Int) < (nt : Int) := by omega
  have t3 : ¬ (n : Int) < (T : Int) := by omega
  have t3' : (T : Int) ≤ (n : Int) := by omega
  clear hm hT hn ht
  obtain ⟨g, hg⟩ : ∃ g, w.heap.size = g := ⟨_, rfl⟩
  obtain ⟨m1, m2, b0⟩ := sh_m (w := w) (L := l) (H := k) (As := As) (ns := 32) (cs := cs) (Al := Al) (nl := 32) (cl := cl) (Ae := Ae) (ne := 32) (ce := ce) hg
  obtain ⟨w0, hw0⟩ : ∃ w0, (w.alloc (.cells (shA l k) 23)).alloc (.cells (mkA As 32 cs Al 32 cl Ae 32 ce) 26) = w0 := ⟨_, rfl⟩
  rw [hw0] at m1 m2 b0
  obtain ⟨k0, k1, k2, k3, k4⟩ := cells5 m1 m2
  have B0 := Lib.hid b0
  have M0 := Lib.hid m1
  have G0 := Lib.hid m2
  clear m1 m2 b0
  go_enter Tryz.func7, Tryz.ntmps7
  go_upto_region 1 with (fail)
  clear hw0 hg
  go_wp2_with (first
    | (go_at_call 20; ((with_reducible refine (CM.out _).mono ?_); rintro e w1 ⟨rfl, b1⟩; have B1 := Lib.hid (B0.out.trans (b1.mono B0.out.size)); obtain ⟨j0, j1, j2, j3, j4⟩ := cells5 (M0.out.below b1 M0.out.lt) (G0.out.below b1 G0.out.lt); clear b1))
    | (go_at_call 17; ((with_reducible refine (HTT.out _).mono ?_); rintro e w2 ⟨rfl, b2⟩; have B2 := Lib.hid (B1.out.trans (b2.mono B1.out.size)); clear b2)))
  go_ret2
  exact givesS_nil B2.out
end Go.Proofs.YtkpfppiedadmbaaGreatDoor.S16

/-
  The document's own Sign of layer 16, where there is no signature. No statement is proved here.
-/
namespace Go.Proofs.YtkpfppiedadmbaaGreatDoor.S16
set_option linter.unusedSimpArgs false
set_option linter.unusedVariables false
set_option maxRecDepth 4096
open Go.RowKit S15

set_option maxHeartbeats 1000000 in
theorem rsign_arg16 (L H : Int) (As : Option Addr) (ns cs : Nat) (Al : Option Addr) (nl cl : Nat) (Ae : Option Addr) (ne ce : Nat) (n : Nat) (At : Option Addr) (nt ct : Nat) (w : World) (hm : madeX L H ns nl ne = false ∨ 65536 < nt) :
    Calls Tryz.prog 8 #[.agg (shA L H), .agg (mkA As ns cs Al nl cl Ae ne ce), .int .u64 (n : Int), .slice At nt ct] w (GivesS w [] 1) := by
  have CM := Lib.hid (show ∀ X, Calls Tryz.prog 31 #[.agg #[.int .i64 L, .int .i64 H], .agg #[.slice As ns cs, .slice Al nl cl, .slice Ae ne ce]] X (GivesB (madeX L H ns nl ne) X) from fun X => rmade_any L H As ns cs Al nl cl Ae ne ce X)
  obtain ⟨g, hg⟩ : ∃ g, w.heap.size = g := ⟨_, rfl⟩
  obtain ⟨m1, m2, b0⟩ := sh_m (w := w) (L := L) (H := H) (As := As) (ns := ns) (cs := cs) (Al := Al) (nl := nl) (cl := cl) (Ae := Ae) (ne := ne) (ce := ce) hg
  obtain ⟨w0, hw0⟩ : ∃ w0, (w.alloc (.cells (shA L H) 23)).alloc (.cells (mkA As ns cs Al nl cl Ae ne ce) 26) = w0 := ⟨_, rfl⟩
  rw [hw0] at m1 m2 b0
  obtain ⟨k0, k1, k2, k3, k4⟩ := cells5 m1 m2
  have B0 := Lib.hid b0
  clear m1 m2 b0
  by_cases c : madeX L H ns nl ne = true
  · have t4 : (65536 : Int) < (nt : Int) := by
      rcases hm with h | h
      · rw [c] at h; cases h
      · omega
    rw [c] at CM
    clear c hm
    go_enter Tryz.func8, Tryz.ntmps8
    go_upto_region 1 with (fail)
    clear hw0 hg
    go_wp2_with (go_at_call 31; ((with_reducible refine (CM.out _).mono ?_); rintro e w1 ⟨rfl, b1⟩; have B1 := Lib.hid (B0.out.trans (b1.mono B0.out.size)); clear b1))
    go_ret2
    exact givesS_nil B1.out
  · have c : madeX L H ns nl ne = false := by simpa using c
    rw [c] at CM
    clear c hm
    go_enter Tryz.func8, Tryz.ntmps8
    go_upto_region 1 with (fail)
    clear hw0 hg
    go_wp2_with (go_at_call 31; ((with_reducible refine (CM.out _).mono ?_); rintro e w1 ⟨rfl, b1⟩; have B1 := Lib.hid (B0.out.trans (b1.mono B0.out.size)); clear b1))
    go_ret2
    exact givesS_nil B1.out
set_option maxHeartbeats 1000000 in
theorem rsign_out16 (l k : Nat) (As : Option Addr) (cs : Nat) (Al : Option Addr) (cl : Nat) (Ae : Option Addr) (ce : Nat) (n : Nat) (At : Option Addr) (nt ct : Nat) (w : World) (hm : madeX l k 32 32 32 = true) (ht : nt ≤ 65536) (hn : totN l k ≤ n) :
    Calls Tryz.prog 8 #[.agg (shA l k), .agg (mkA As 32 cs Al 32 cl Ae 32 ce), .int .u64 (n : Int), .slice At nt ct] w (GivesS w [] 9) := by
  have CM := Lib.hid (show ∀ X, Calls Tryz.prog 31 #[.agg #[.int .i64 (l : Int), .int .i64 (k : Int)], .agg #[.slice As 32 cs, .slice Al 32 cl, .slice Ae 32 ce]] X (GivesB true X) from fun X => by rw [← hm]; exact rmade_any l k As 32 cs Al 32 cl Ae 32 ce X)
  obtain ⟨T, hT⟩ : ∃ T, T = totN l k := ⟨_, rfl⟩
  have HTT := Lib.hid (show ∀ X, Calls Tryz.prog 32 #[.agg #[.int .i64 (l : Int), .int .i64 (k : Int)]] X (GivesV (.int .u64 (T : Int)) X) from fun X => by rw [hT, totN, ← totX_may (madeX_iff.1 hm).1 rfl]; exact rtot_any l k X)
  rw [← hT] at hn
  have t2 : ¬ (65536 : Int) < (nt : Int) := by omega
  have t3 : ¬ (n : Int) < (T : Int) := by omega
  have t3' : (T : Int) ≤ (n : Int) := by omega
  clear hm hT hn ht
  obtain ⟨g, hg⟩ : ∃ g, w.heap.size = g := ⟨_, rfl⟩
  obtain ⟨m1, m2, b0⟩ := sh_m (w := w) (L := l) (H := k) (As := As) (ns := 32) (cs := cs) (Al := Al) (nl := 32) (cl := cl) (Ae := Ae) (ne := 32) (ce := ce) hg
  obtain ⟨w0, hw0⟩ : ∃ w0, (w.alloc (.cells (shA l k) 23)).alloc (.cells (mkA As 32 cs Al 32 cl Ae 32 ce) 26) = w0 := ⟨_, rfl⟩
  rw [hw0] at m1 m2 b0
  obtain ⟨k0, k1, k2, k3, k4⟩ := cells5 m1 m2
  have B0 := Lib.hid b0
  have M0 := Lib.hid m1
  have G0 := Lib.hid m2
  clear m1 m2 b0
  go_enter Tryz.func8, Tryz.ntmps8
  go_upto_region 1 with (fail)
  clear hw0 hg
  go_wp2_with (first
    | (go_at_call 31; ((with_reducible refine (CM.out _).mono ?_); rintro e w1 ⟨rfl, b1⟩; have B1 := Lib.hid (B0.out.trans (b1.mono B0.out.size)); obtain ⟨j0, j1, j2, j3, j4⟩ := cells5 (M0.out.below b1 M0.out.lt) (G0.out.below b1 G0.out.lt); clear b1))
    | (go_at_call 32; ((with_reducible refine (HTT.out _).mono ?_); rintro e w2 ⟨rfl, b2⟩; have B2 := Lib.hid (B1.out.trans (b2.mono B1.out.size)); clear b2)))
  go_ret2
  exact givesS_nil B2.out
end Go.Proofs.YtkpfppiedadmbaaGreatDoor.S16

/-
  What the calls of package xmss are to do, as one structure. No statement is proved here.
-/
namespace Go.Proofs.YtkpfppiedadmbaaGreatDoor.S16
set_option linter.unusedSimpArgs false
set_option linter.unusedVariables false
set_option maxRecDepth 1024
open Go.RowKit S15

structure XC where
  ok : World → Prop
  bel : ∀ {w w' : World}, ok w → Below w.heap.size w w' → ok w'
  may : ∀ (L H : Int) (w : World), ok w → Calls Tryz.prog 16 #[.agg #[.int .i64 L, .int .i64 H]] w (GivesB (mayX L H) w)
  total : ∀ (L H : Int) (w : World), ok w → Calls Tryz.prog 17 #[.agg #[.int .i64 L, .int .i64 H]] w (GivesV (.int .u64 (totX L H : Int)) w)
  size : ∀ (L H : Int) (w : World), ok w → Calls Tryz.prog 18 #[.agg #[.int .i64 L, .int .i64 H]] w (GivesV (.int .i64 (sizeX L H : Int)) w)
  root : ∀ (L H : Int) (As : Option Addr) (ns cs : Nat) (sec : List UInt8) (Al : Option Addr) (nl cl : Nat) (salt : List UInt8) (Ae : Option Addr) (ne ce : Nat) (sd : List UInt8) (ly tr : Nat) (w : World), ok w → Rd w As ns cs sec → Rd w Al nl cl salt → Rd w Ae ne ce sd → ly < 4294967296 → tr < 18446744073709551616 →
    Calls Tryz.prog 12 #[.agg #[.int .i64 L, .int .i64 H], .agg #[.slice As ns cs, .slice Al nl cl, .slice Ae ne ce], .int .u32 (ly : Int), .int .u64 (tr : Int)] w (GivesR w (rootX L H sec salt sd ly tr))
  pub : ∀ (L H : Int) (As : Option Addr) (ns cs : Nat) (sec : List UInt8) (Al : Option Addr) (nl cl : Nat) (salt : List UInt8) (Ae : Option Addr) (ne ce : Nat) (sd : List UInt8) (w : World), ok w → Rd w As ns cs sec → Rd w Al nl cl salt → Rd w Ae ne ce sd →
    Calls Tryz.prog 10 #[.agg #[.int .i64 L, .int .i64 H], .agg #[.slice As ns cs, .slice Al nl cl, .slice Ae ne ce]] w (GivesR w (pubX L H sec salt sd))
  sign : ∀ (L H : Int) (As : Option Addr) (ns cs : Nat) (sec : List UInt8) (Al : Option Addr) (nl cl : Nat) (salt : List UInt8) (Ae : Option Addr) (ne ce : Nat) (sd : List UInt8) (n : Nat) (At : Option Addr) (nt ct : Nat) (text : List UInt8) (w : World), ok w → Rd w As ns cs sec → Rd w Al nl cl salt → Rd w Ae ne ce sd → n < 18446744073709551616 → Rd w At nt ct text →
    Calls Tryz.prog 7 #[.agg #[.int .i64 L, .int .i64 H], .agg #[.slice As ns cs, .slice Al nl cl, .slice Ae ne ce], .int .u64 (n : Int), .slice At nt ct] w (GivesS w (sigX L H sec salt sd n text) (codeX L H sec salt sd n text))
  fits : ∀ (L H : Int) (Ap : Option Addr) (np cp : Nat) (pub : List UInt8) (At : Option Addr) (nt ct : Nat) (text : List UInt8) (Ag : Option Addr) (ng cg : Nat) (sig : List UInt8) (w : World), ok w → Rd w Ap np cp pub → Rd w At nt ct text → Rd w Ag ng cg sig →
    Calls Tryz.prog 14 #[.agg #[.int .i64 L, .int .i64 H], .slice Ap np cp, .slice At nt ct, .slice Ag ng cg] w (GivesB (fitX L H pub text sig) w)
/-- A row of so many bytes. -/
def GivesN (w : World) (n : Nat) (xs : List UInt8) (e : Ending) (w' : World) : Prop := ∃ (A : Option Addr) (c : Nat), e = .returned (.slice A n c) ∧ Rd w' A n c xs ∧ Below w.heap.size w w'
theorem givesN {w w' : World} {n : Nat} {xs : List UInt8} {e : Ending} (h : GivesR w xs e w') (hl : xs.length = n) : GivesN w n xs e w' := by subst hl; exact h
def GivesSN (w : World) (n : Nat) (xs : List UInt8) (code : Nat) (e : Ending) (w' : World) : Prop := ∃ (A : Option Addr) (c : Nat), e = .returned (.tuple #[.slice A n c, .int .i64 (code : Int)]) ∧ Rd w' A n c xs ∧ Below w.heap.size w w'
theorem givesSN {w w' : World} {n code : Nat} {xs : List UInt8} {e : Ending} (h : GivesS w xs code e w') (hl : xs.length = n) : GivesSN w n xs code e w' := by subst hl; exact h
end Go.Proofs.YtkpfppiedadmbaaGreatDoor.S16

/-
  What the first question of each statement of layer 15 answers. No statement is proved here.
-/
namespace Go.Proofs.YtkpfppiedadmbaaGreatDoor.S15
set_option linter.unusedSimpArgs false
set_option linter.unusedVariables false
set_option maxRecDepth 1024
open Go.RowKit

abbrev z32 : List UInt8 := List.replicate 32 0
theorem z_len : z32.length = 32 := by simp
theorem may_z : mayN z32.length z32.length z32.length = true := by rw [z_len]; rfl
end Go.Proofs.YtkpfppiedadmbaaGreatDoor.S15
