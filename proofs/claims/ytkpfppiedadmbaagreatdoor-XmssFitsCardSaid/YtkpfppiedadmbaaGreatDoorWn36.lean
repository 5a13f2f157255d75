/-
  Texts put together: XmH, XmI, XmJ, XmN, WpA, XmQ. No statement is proved here.
-/
import Derived.Test.YtkpfppiedadmbaaGreatDoorWn35
import Derived.Test.YtkpfppiedadmbaaGreatDoorWn30
import Derived.Test.YtkpfppiedadmbaaGreatDoorWn15

/-
  The landed package xmss: whether any signature fits. No statement is proved here.
-/
namespace Go.Proofs.YtkpfppiedadmbaaGreatDoor.S16
set_option linter.unusedSimpArgs false
set_option linter.unusedVariables false
set_option maxRecDepth 1024
open Go.RowKit S15

theorem fits_any (L H : Int) (Ap : Option Addr) (np cp : Nat) (pub : List UInt8) (At : Option Addr) (nt ct : Nat) (text : List UInt8) (Ag : Option Addr) (ng cg : Nat) (sig : List UInt8) (w : World) (hk : GK w) (hp : Rd w Ap np cp pub) (ht : Rd w At nt ct text) (hg : Rd w Ag ng cg sig) :
    Calls Tryz.prog 14 #[.agg (shA L H), .slice Ap np cp, .slice At nt ct, .slice Ag ng cg] w (GivesB (fitX L H pub text sig) w) := by
  by_cases hm : mayX L H = true
  · obtain ⟨l, k, rfl, rfl, h1, h2, h3, h4, h5⟩ := mayX_nat hm
    by_cases hc : np = 64 ∧ ng = sizeN l k ∧ nt ≤ 65536
    · obtain ⟨rfl, rfl, h6⟩ := hc
      have e : fitX l k pub text sig = fitN l k pub text sig := by
        rw [fitX, if_pos ⟨hm, hp.len, hg.len, by rw [ht.len]; exact h6⟩]
        rfl
      rw [e]
      have hA : Ahead w l k Ap cp pub At nt ct text Ag cg (sizeN l k) sig := ⟨hk, hp, ht, hg, hm, rfl, h6⟩
      by_cases hn : getL (sig.take 8) < totN l k
      · exact fits_may l k Ap cp pub At nt ct text Ag cg _ sig w hA hn
      · have e2 : fitN l k pub text sig = false := by simp [fitN, hn]
        rw [e2]
        exact fits_beyond l k Ap cp pub At nt ct text Ag cg _ sig w hA (by omega)
    · have e : fitX l k pub text sig = false := by
        rw [fitX, if_neg]
        rintro ⟨_, q1, q2, q3⟩
        exact hc ⟨hp.len.symm.trans q1, hg.len.symm.trans q2, by rw [← ht.len]; exact q3⟩
      rw [e]
      exact fits_not l k Ap np cp At nt ct Ag ng cg w (by rw [sizeX_may hm]; omega)
  · have e : fitX L H pub text sig = false := by rw [fitX, if_neg fun c => hm c.1]
    rw [e]
    exact fits_not L H Ap np cp At nt ct Ag ng cg w (.inl (by simpa using hm))
end Go.Proofs.YtkpfppiedadmbaaGreatDoor.S16

/-
  The landed package xmss: a signature's parts in plain words, and what holds while they are put together. No statement is proved here.
-/
namespace Go.Proofs.YtkpfppiedadmbaaGreatDoor.S16
set_option linter.unusedSimpArgs false
set_option linter.unusedVariables false
set_option maxRecDepth 1024
open Go.RowKit S15 RD

/-- What each layer signs. -/
def ofN (sec sd : List UInt8) (h n : Nat) (tx : List UInt8) : Nat → List UInt8
  | 0 => tx
  | k + 1 => sumT sec sd k (nT h n (k + 1)) h 0
/-- A layer's parts: the leaf's signature, and its way. -/
def blkR (sec sd : List UInt8) (h n : Nat) (tx : List UInt8) (k : Nat) : Nat → List UInt8
  | 0 => signL sec sd (adQ k (nT h n (k + 1)) (nT h n k % 2 ^ h)) (ofN sec sd h n tx k)
  | r + 1 => sumT sec sd k (nT h n (k + 1)) r (sib (nT h n k % 2 ^ h / 2 ^ r))
def partR (sec salt sd : List UInt8) (h n : Nat) (tx : List UInt8) : Nat → List UInt8
  | 0 => putL n 8
  | 1 => salt
  | i + 2 => blkR sec sd h n tx (i / (h + 1)) (i % (h + 1))
theorem cat_congr {U V : Nat → List UInt8} : ∀ m, (∀ i, i < m → U i = V i) → cat U m = cat V m
  | 0, _ => rfl
  | m + 1, h => by rw [cat, cat, cat_congr m fun i hi => h i (by omega), h m (by omega)]
theorem cat_add (U : Nat → List UInt8) (a : Nat) : ∀ m, cat U (a + m) = cat U a ++ cat (fun i => U (a + i)) m
  | 0 => by simp [cat]
  | m + 1 => by rw [← Nat.add_assoc, cat, cat_add U a m, cat, List.append_assoc]
theorem cat_cons (U : Nat → List UInt8) (m : Nat) : cat U (m + 1) = U 0 ++ cat (fun i => U (i + 1)) m := by
  rw [Nat.add_comm m 1, cat_add U 1 m]
  simp [cat, Nat.add_comm]
theorem way_cat (sec sd : List UInt8) (ly tr : Nat) : ∀ m g i, cat (fun r => sumT sec sd ly tr (g + r) (sib (i / 2 ^ r))) m = wayF sec sd ly tr g m i
  | 0, g, i => rfl
  | m + 1, g, i => by
    rw [cat_cons, wayF, ← way_cat sec sd ly tr m (g + 1) (i / 2)]
    simp only [Nat.add_zero, Nat.pow_zero, Nat.div_one]
    congr 1
    refine cat_congr m fun r _ => ?_
    rw [Nat.div_div_eq_div_mul, show 2 * 2 ^ r = 2 ^ (r + 1) by rw [Nat.pow_succ]; omega, show g + (r + 1) = g + 1 + r by omega]
theorem blk_cat (sec sd : List UInt8) (h n : Nat) (tx : List UInt8) (k : Nat) : cat (blkR sec sd h n tx k) (h + 1) = signL sec sd (adQ k (nT h n (k + 1)) (nT h n k % 2 ^ h)) (ofN sec sd h n tx k) ++ wayF sec sd k (nT h n (k + 1)) 0 h (nT h n k % 2 ^ h) := by
  rw [cat_cons, ← way_cat]
  simp only [blkR]
  congr 1
  refine cat_congr h fun r _ => ?_
  rw [Nat.zero_add]
theorem layers_cat (sec sd : List UInt8) (h n : Nat) (tx : List UInt8) : ∀ m k, cat (fun j => blkR sec sd h n tx (k + j / (h + 1)) (j % (h + 1))) (m * (h + 1)) = signF sec sd h k m (nT h n k) (ofN sec sd h n tx k)
  | 0, k => by simp [cat, signF]
  | m + 1, k => by
    rw [show (m + 1) * (h + 1) = (h + 1) + m * (h + 1) by rw [Nat.succ_mul]; omega, cat_add, signF, ← nT_succ]
    have e1 : cat (fun j => blkR sec sd h n tx (k + j / (h + 1)) (j % (h + 1))) (h + 1) = cat (blkR sec sd h n tx k) (h + 1) := cat_congr _ fun i hi => by
      rw [Nat.div_eq_of_lt hi, Nat.mod_eq_of_lt hi, Nat.add_zero]
    have e2 : cat (fun i => blkR sec sd h n tx (k + (h + 1 + i) / (h + 1)) ((h + 1 + i) % (h + 1))) (m * (h + 1)) = cat (fun j => blkR sec sd h n tx (k + 1 + j / (h + 1)) (j % (h + 1))) (m * (h + 1)) := cat_congr _ fun i _ => by
      rw [Nat.add_mod_left, Nat.add_div_left _ (by omega), show k + (i / (h + 1)).succ = k + 1 + i / (h + 1) by omega]
    rw [e1, e2, blk_cat, layers_cat sec sd h n tx m (k + 1), List.append_assoc]
    rfl
/-- All parts, one behind the other. -/
theorem parts_cat (sec salt sd : List UInt8) (h n l : Nat) (tx : List UInt8) : cat (partR sec salt sd h n tx) (2 + l * (h + 1)) = [putL n 8, salt].flatten ++ signF sec sd h 0 l n tx := by
  rw [cat_add]
  have e1 : cat (partR sec salt sd h n tx) 2 = [putL n 8, salt].flatten := by simp [cat, partR]
  have e2 : cat (fun i => partR sec salt sd h n tx (2 + i)) (l * (h + 1)) = cat (fun j => blkR sec sd h n tx (0 + j / (h + 1)) (j % (h + 1))) (l * (h + 1)) := cat_congr _ fun i _ => by
    rw [Nat.add_comm 2 i, partR, Nat.zero_add]
  rw [e1, e2, layers_cat sec sd h n tx l 0, nT_zero]
  rfl
theorem part_sig (sec salt sd : List UInt8) (h n : Nat) (tx : List UInt8) (k : Nat) : partR sec salt sd h n tx (2 + k * (h + 1)) = signL sec sd (adQ k (nT h n (k + 1)) (nT h n k % 2 ^ h)) (ofN sec sd h n tx k) := by
  rw [Nat.add_comm, partR, Nat.mul_div_cancel _ (by omega), Nat.mul_mod_left]
  rfl
theorem part_way (sec salt sd : List UInt8) (h n : Nat) (tx : List UInt8) (k r : Nat) (hr : r < h) : partR sec salt sd h n tx (2 + k * (h + 1) + 1 + r) = sumT sec sd k (nT h n (k + 1)) r (sib (nT h n k % 2 ^ h / 2 ^ r)) := by
  rw [show 2 + k * (h + 1) + 1 + r = (k * (h + 1) + (r + 1)) + 2 by omega, partR]
  have e1 : (k * (h + 1) + (r + 1)) / (h + 1) = k := by
    rw [Nat.mul_comm, Nat.mul_add_div (by omega), Nat.div_eq_of_lt (by omega), Nat.add_zero]
  have e2 : (k * (h + 1) + (r + 1)) % (h + 1) = r + 1 := by
    rw [Nat.mul_comm, Nat.mul_add_mod, Nat.mod_eq_of_lt (by omega)]
  rw [e1, e2, blkR]
/-- A slice of rows, read. -/
theorem sl_rows {f : Nat → List UInt8} {w : World} {S : Nat → Prop} {A : Option Addr} {n c : Nat} (h : Sl (rowE f) w S A n c) : RdBs w A n c ((List.range n).map f) :=
  ⟨by simp, h.cap, h.max, h.nil, fun hn => by
    obtain ⟨b, off, e, hb, _, hc⟩ := h.at_ hn
    refine ⟨b, off, e, hb, fun j hj => ?_⟩
    obtain ⟨u, h1, A', n', c', rfl, h2, _⟩ := hc j hj
    exact ⟨A', n', c', h1, by simpa [hj] using h2⟩⟩
/-- The trees of an index, layer by layer. -/
abbrev treesE (sec sd : List UInt8) (h n : Nat) : El := slE (fun _ => h + 1) (fun k => treeE sec sd k (nT h n (k + 1)) h)
theorem treesE_fp (sec sd : List UInt8) (h n : Nat) : FP (treesE sec sd h n) := slE_fp fun k => treeE_fp _ _ _ _ _
/-- While trees are put one behind another. -/
structure TI (w wL : World) (sec sd : List UInt8) (h n ET bn k z : Nat) (X : World) : Prop where
  ke : KX wL.heap.size (fun b => b = ET ∨ b = bn) wL X
  bel : Below w.heap.size w X
  box : Bk X bn 27 #[.int .u64 ((nT h n k : Nat) : Int)]
  got : ∃ v vs, Bk X ET 47 #[v] ∧ Gr (treesE sec sd h n) 54 X wL.heap.size v k k vs ∧ ∀ b, v.ownBlock = some b → b < z
theorem TI.own {w wL : World} {sec sd : List UInt8} {h n ET bn : Nat} (hw : w.heap.size ≤ wL.heap.size) : OwnFrom wL.heap.size (fun (s : Nat × Nat) X => TI w wL sec sd h n ET bn s.1 s.2 X) := by
  intro s X Y row hs hg hr
  have hc : CK X Y := CK.of hg fun r e => (hr r e).2
  obtain ⟨v, vs, h1, h2, h3⟩ := hs.got
  exact ⟨hs.ke.trans (KX.grown hg hs.ke.size fun r e => (hr r e).1), hs.bel.grown hg hs.bel.size (fun j e => Nat.le_trans hw (hr j e).1), hc.bk hs.box, v, vs, hc.bk h1, h2.ck (treesE_fp _ _ _ _) hc, h3⟩
/-- While parts are put one behind another. -/
structure PI (w wL : World) (sec salt sd : List UInt8) (h n ES EP bn dP : Nat) (tx : List UInt8) (k z : Nat) (X : World) : Prop where
  ke : KX wL.heap.size (fun b => b = ES ∨ b = EP ∨ b = bn ∨ b = dP) wL X
  bel : Below w.heap.size w X
  box : Bk X bn 27 #[.int .u64 ((nT h n k : Nat) : Int)]
  sum : ∃ A c, Bk X ES 24 #[.slice A 32 c] ∧ Rd X A 32 c (ofN sec sd h n tx k) ∧ ∀ a, A = some a → a.block < ES
  got : ∃ v vs, Bk X EP 61 #[v] ∧ Gr (rowE (partR sec salt sd h n tx)) 24 X w.heap.size v (2 + k * (h + 1)) (2 + k * (h + 1)) vs ∧ ∀ b, v.ownBlock = some b → b < z ∧ (b = dP ∨ wL.heap.size ≤ b)
theorem PI.own {w wL : World} {sec salt sd : List UInt8} {h n ES EP bn dP : Nat} {tx : List UInt8} (hw : w.heap.size ≤ wL.heap.size) : OwnFrom wL.heap.size (fun (s : Nat × Nat) X => PI w wL sec salt sd h n ES EP bn dP tx s.1 s.2 X) := by
  intro s X Y row hs hg hr
  have hc : CK X Y := CK.of hg fun r e => (hr r e).2
  obtain ⟨v, vs, h1, h2, h3⟩ := hs.got
  obtain ⟨A, c, h4, h5, h6⟩ := hs.sum
  exact ⟨hs.ke.trans (KX.grown hg hs.ke.size fun r e => (hr r e).1), hs.bel.grown hg hs.bel.size (fun j e => Nat.le_trans hw (hr j e).1), hc.bk hs.box, ⟨A, c, hc.bk h4, hc.rd h5, h6⟩, v, vs, hc.bk h1, h2.ck (rowE_fp _) hc, h3⟩
end Go.Proofs.YtkpfppiedadmbaaGreatDoor.S16

/-
  The landed package xmss: a signature, where there is none. No statement is proved here.
-/
namespace Go.Proofs.YtkpfppiedadmbaaGreatDoor.S16
set_option linter.unusedSimpArgs false
set_option linter.unusedVariables false
set_option maxRecDepth 1024
open Go.RowKit S15

/-- A row and a code. -/
def GivesS (w : World) (xs : List UInt8) (code : Nat) (e : Ending) (w' : World) : Prop := ∃ (A : Option Addr) (c : Nat), e = .returned (.tuple #[.slice A xs.length c, .int .i64 (code : Int)]) ∧ Rd w' A xs.length c xs ∧ Below w.heap.size w w'
theorem givesS_nil {w w' : World} {code : Nat} (hb : Below w.heap.size w w') : GivesS w [] code (.returned (.tuple #[.slice none 0 0, .int .i64 (code : Int)])) w' := ⟨none, 0, rfl, Rd.nil_ _, hb⟩
set_option maxHeartbeats 1000000 in
theorem sign_arg (L H : Int) (As : Option Addr) (ns cs : Nat) (Al : Option Addr) (nl cl : Nat) (Ae : Option Addr) (ne ce : Nat) (n : Nat) (At : Option Addr) (nt ct : Nat) (w : World) (hm : madeX L H ns nl ne = false ∨ 65536 < nt) :
    Calls Tryz.prog 7 #[.agg (shA L H), .agg (mkA As ns cs Al nl cl Ae ne ce), .int .u64 (n : Int), .slice At nt ct] w (GivesS w [] 1) := by
  have CM := Lib.hid (show ∀ X, Calls Tryz.prog 20 #[.agg #[.int .i64 L, .int .i64 H], .agg #[.slice As ns cs, .slice Al nl cl, .slice Ae ne ce]] X (GivesB (madeX L H ns nl ne) X) from fun X => canMake_any L H As ns cs Al nl cl Ae ne ce X)
  obtain ⟨g, hg⟩ : ∃ g, w.heap.size = g := ⟨_, rfl⟩
  obtain ⟨m1, m2, b0⟩ := sh_m (w := w) (L := L) (H := H) (As := As) (ns := ns) (cs := cs) (Al := Al) (nl := nl) (cl := cl) (Ae := Ae) (ne := ne) (ce := ce) hg
  obtain ⟨w0, hw0⟩ : ∃ w0, (w.alloc (.cells (shA L H) 23)).alloc (.cells (mkA As ns cs Al nl cl Ae ne ce) 26) = w0 := ⟨_, rfl⟩
  rw [hw0] at m1 m2 b0
  obtain ⟨k0, k1, k2, k3, k4⟩ := cells5 m1 m2
  have B0 := Lib.hid b0
  clear m1 m2 b0
  by_cases c : madeX L H ns nl ne = true
  · have t4 : (65536 : Int) < (nt : Int) := by
      rcases hm with h | h
      · rw [c] at h; cases h
      · omega
    rw [c] at CM
    clear c hm
    go_enter Tryz.func7, Tryz.ntmps7
    go_upto_region 1 with (fail)
    clear hw0 hg
    go_wp2_with (go_at_call 20; ((with_reducible refine (CM.out _).mono ?_); rintro e w1 ⟨rfl, b1⟩; have B1 := Lib.hid (B0.out.trans (b1.mono B0.out.size)); clear b1))
    go_ret2
    exact givesS_nil B1.out
  · have c : madeX L H ns nl ne = false := by simpa using c
    rw [c] at CM
    clear c hm
    go_enter Tryz.func7, Tryz.ntmps7
    go_upto_region 1 with (fail)
    clear hw0 hg
    go_wp2_with (go_at_call 20; ((with_reducible refine (CM.out _).mono ?_); rintro e w1 ⟨rfl, b1⟩; have B1 := Lib.hid (B0.out.trans (b1.mono B0.out.size)); clear b1))
    go_ret2
    exact givesS_nil B1.out
set_option maxHeartbeats 1000000 in
theorem sign_out (l k : Nat) (As : Option Addr) (cs : Nat) (Al : Option Addr) (cl : Nat) (Ae : Option Addr) (ce : Nat) (n : Nat) (At : Option Addr) (nt ct : Nat) (w : World) (hm : madeX l k 32 32 32 = true) (ht : nt ≤ 65536) (hn : totN l k ≤ n) :
    Calls Tryz.prog 7 #[.agg (shA l k), .agg (mkA As 32 cs Al 32 cl Ae 32 ce), .int .u64 (n : Int), .slice At nt ct] w (GivesS w [] 9) := by
  have CM := Lib.hid (show ∀ X, Calls Tryz.prog 20 #[.agg #[.int .i64 (l : Int), .int .i64 (k : Int)], .agg #[.slice As 32 cs, .slice Al 32 cl, .slice Ae 32 ce]] X (GivesB true X) from fun X => by rw [← hm]; exact canMake_any l k As 32 cs Al 32 cl Ae 32 ce X)
  obtain ⟨T, hT⟩ : ∃ T, T = totN l k := ⟨_, rfl⟩
  have HTT := Lib.hid (show ∀ X, Calls Tryz.prog 17 #[.agg #[.int .i64 (l : Int), .int .i64 (k : Int)]] X (GivesV (.int .u64 (T : Int)) X) from fun X => by rw [hT, totN, ← totX_may (madeX_iff.1 hm).1 rfl]; exact tot_any l k X)
  rw [← hT] at hn
  have t2 : ¬ (65536 : Int) < (nt : Int) := by omega
  have t3 : ¬ (n : Int) < (T : Int) := by omega
  have t3' : (T : Int) ≤ (n : Int) := by omega
  clear hm hT hn ht
  obtain ⟨g, hg⟩ : ∃ g, w.heap.size = g := ⟨_, rfl⟩
  obtain ⟨m1, m2, b0⟩ := sh_m (w := w) (L := l) (H := k) (As := As) (ns := 32) (cs := cs) (Al := Al) (nl := 32) (cl := cl) (Ae := Ae) (ne := 32) (ce := ce) hg
  obtain ⟨w0, hw0⟩ : ∃ w0, (w.alloc (.cells (shA l k) 23)).alloc (.cells (mkA As 32 cs Al 32 cl Ae 32 ce) 26) = w0 := ⟨_, rfl⟩
  rw [hw0] at m1 m2 b0
  obtain ⟨k0, k1, k2, k3, k4⟩ := cells5 m1 m2
  have B0 := Lib.hid b0
  have M0 := Lib.hid m1
  have G0 := Lib.hid m2
  clear m1 m2 b0
  go_enter Tryz.func7, Tryz.ntmps7
  go_upto_region 1 with (fail)
  clear hw0 hg
  go_wp2_with (first
    | (go_at_call 20; ((with_reducible refine (CM.out _).mono ?_); rintro e w1 ⟨rfl, b1⟩; have B1 := Lib.hid (B0.out.trans (b1.mono B0.out.size)); obtain ⟨j0, j1, j2, j3, j4⟩ := cells5 (M0.out.below b1 M0.out.lt) (G0.out.below b1 G0.out.lt); clear b1))
    | (go_at_call 17; ((with_reducible refine (HTT.out _).mono ?_); rintro e w2 ⟨rfl, b2⟩; have B2 := Lib.hid (B1.out.trans (b2.mono B1.out.size)); clear b2)))
  go_ret2
  exact givesS_nil B2.out
end Go.Proofs.YtkpfppiedadmbaaGreatDoor.S16

/-
  What the calls of package xmss are to do, as one structure. No statement is proved here.
-/
namespace Go.Proofs.YtkpfppiedadmbaaGreatDoor.S16
set_option linter.unusedSimpArgs false
set_option linter.unusedVariables false
set_option maxRecDepth 1024
open Go.RowKit S15

structure XC where
  ok : World → Prop
  bel : ∀ {w w' : World}, ok w → Below w.heap.size w w' → ok w'
  may : ∀ (L H : Int) (w : World), ok w → Calls Tryz.prog 16 #[.agg #[.int .i64 L, .int .i64 H]] w (GivesB (mayX L H) w)
  total : ∀ (L H : Int) (w : World), ok w → Calls Tryz.prog 17 #[.agg #[.int .i64 L, .int .i64 H]] w (GivesV (.int .u64 (totX L H : Int)) w)
  size : ∀ (L H : Int) (w : World), ok w → Calls Tryz.prog 18 #[.agg #[.int .i64 L, .int .i64 H]] w (GivesV (.int .i64 (sizeX L H : Int)) w)
  root : ∀ (L H : Int) (As : Option Addr) (ns cs : Nat) (sec : List UInt8) (Al : Option Addr) (nl cl : Nat) (salt : List UInt8) (Ae : Option Addr) (ne ce : Nat) (sd : List UInt8) (ly tr : Nat) (w : World), ok w → Rd w As ns cs sec → Rd w Al nl cl salt → Rd w Ae ne ce sd → ly < 4294967296 → tr < 18446744073709551616 →
    Calls Tryz.prog 12 #[.agg #[.int .i64 L, .int .i64 H], .agg #[.slice As ns cs, .slice Al nl cl, .slice Ae ne ce], .int .u32 (ly : Int), .int .u64 (tr : Int)] w (GivesR w (rootX L H sec salt sd ly tr))
  pub : ∀ (L H : Int) (As : Option Addr) (ns cs : Nat) (sec : List UInt8) (Al : Option Addr) (nl cl : Nat) (salt : List UInt8) (Ae : Option Addr) (ne ce : Nat) (sd : List UInt8) (w : World), ok w → Rd w As ns cs sec → Rd w Al nl cl salt → Rd w Ae ne ce sd →
    Calls Tryz.prog 10 #[.agg #[.int .i64 L, .int .i64 H], .agg #[.slice As ns cs, .slice Al nl cl, .slice Ae ne ce]] w (GivesR w (pubX L H sec salt sd))
  sign : ∀ (L H : Int) (As : Option Addr) (ns cs : Nat) (sec : List UInt8) (Al : Option Addr) (nl cl : Nat) (salt : List UInt8) (Ae : Option Addr) (ne ce : Nat) (sd : List UInt8) (n : Nat) (At : Option Addr) (nt ct : Nat) (text : List UInt8) (w : World), ok w → Rd w As ns cs sec → Rd w Al nl cl salt → Rd w Ae ne ce sd → n < 18446744073709551616 → Rd w At nt ct text →
    Calls Tryz.prog 7 #[.agg #[.int .i64 L, .int .i64 H], .agg #[.slice As ns cs, .slice Al nl cl, .slice Ae ne ce], .int .u64 (n : Int), .slice At nt ct] w (GivesS w (sigX L H sec salt sd n text) (codeX L H sec salt sd n text))
  fits : ∀ (L H : Int) (Ap : Option Addr) (np cp : Nat) (pub : List UInt8) (At : Option Addr) (nt ct : Nat) (text : List UInt8) (Ag : Option Addr) (ng cg : Nat) (sig : List UInt8) (w : World), ok w → Rd w Ap np cp pub → Rd w At nt ct text → Rd w Ag ng cg sig →
    Calls Tryz.prog 14 #[.agg #[.int .i64 L, .int .i64 H], .slice Ap np cp, .slice At nt ct, .slice Ag ng cg] w (GivesB (fitX L H pub text sig) w)
/-- A row of so many bytes. -/
def GivesN (w : World) (n : Nat) (xs : List UInt8) (e : Ending) (w' : World) : Prop := ∃ (A : Option Addr) (c : Nat), e = .returned (.slice A n c) ∧ Rd w' A n c xs ∧ Below w.heap.size w w'
theorem givesN {w w' : World} {n : Nat} {xs : List UInt8} {e : Ending} (h : GivesR w xs e w') (hl : xs.length = n) : GivesN w n xs e w' := by subst hl; exact h
def GivesSN (w : World) (n : Nat) (xs : List UInt8) (code : Nat) (e : Ending) (w' : World) : Prop := ∃ (A : Option Addr) (c : Nat), e = .returned (.tuple #[.slice A n c, .int .i64 (code : Int)]) ∧ Rd w' A n c xs ∧ Below w.heap.size w w'
theorem givesSN {w w' : World} {n code : Nat} {xs : List UInt8} {e : Ending} (h : GivesS w xs code e w') (hl : xs.length = n) : GivesSN w n xs code e w' := by subst hl; exact h
end Go.Proofs.YtkpfppiedadmbaaGreatDoor.S16

/-
  What the first question of each statement of layer 15 answers. No statement is proved here.
-/
namespace Go.Proofs.YtkpfppiedadmbaaGreatDoor.S15
set_option linter.unusedSimpArgs false
set_option linter.unusedVariables false
set_option maxRecDepth 1024
open Go.RowKit

abbrev z32 : List UInt8 := List.replicate 32 0
theorem z_len : z32.length = 32 := by simp
theorem may_z : mayN z32.length z32.length z32.length = true := by rw [z_len]; rfl
end Go.Proofs.YtkpfppiedadmbaaGreatDoor.S15

/-
  What the first question of each statement of layer 16 answers. No statement is proved here.
-/
namespace Go.Proofs.YtkpfppiedadmbaaGreatDoor.S16
set_option linter.unusedSimpArgs false
set_option linter.unusedVariables false
set_option maxRecDepth 4096
open Go.RowKit S15

abbrev zz32 : List UInt8 := List.replicate 32 0
set_option maxHeartbeats 4000000 in
theorem awake16_core (M : XC) (w : World) (hk : M.ok w) (PB SG : List UInt8)
    (hpb : ∀ X z, M.ok X → Rd X (some ⟨z, 0, none⟩) 32 32 zz32 → Calls Tryz.prog 10 #[.agg #[.int .i64 1, .int .i64 1], .agg #[.slice (some ⟨z, 0, none⟩) 32 32, .slice (some ⟨z, 0, none⟩) 32 32, .slice (some ⟨z, 0, none⟩) 32 32]] X (GivesN X 64 PB))
    (hs1 : ∀ X z, M.ok X → Rd X (some ⟨z, 0, none⟩) 32 32 zz32 → Calls Tryz.prog 7 #[.agg #[.int .i64 1, .int .i64 1], .agg #[.slice (some ⟨z, 0, none⟩) 32 32, .slice (some ⟨z, 0, none⟩) 32 32, .slice (some ⟨z, 0, none⟩) 32 32], .int .u64 1, .slice (some ⟨z, 0, none⟩) 32 32] X (GivesSN X 2216 SG 0))
    (hs2 : ∀ X z, M.ok X → Rd X (some ⟨z, 0, none⟩) 32 32 zz32 → Calls Tryz.prog 7 #[.agg #[.int .i64 1, .int .i64 1], .agg #[.slice (some ⟨z, 0, none⟩) 32 32, .slice (some ⟨z, 0, none⟩) 32 32, .slice (some ⟨z, 0, none⟩) 32 32], .int .u64 2, .slice (some ⟨z, 0, none⟩) 32 32] X (GivesSN X 0 [] 9))
    (hmy : ∀ X, M.ok X → Calls Tryz.prog 16 #[.agg #[.int .i64 1, .int .i64 1]] X (GivesB true X))
    (htt : ∀ X, M.ok X → Calls Tryz.prog 17 #[.agg #[.int .i64 1, .int .i64 1]] X (GivesV (.int .u64 2) X))
    (hz1 : ∀ X, M.ok X → Calls Tryz.prog 18 #[.agg #[.int .i64 1, .int .i64 1]] X (GivesV (.int .i64 2216) X))
    (hz2 : ∀ X, M.ok X → Calls Tryz.prog 18 #[.agg #[.int .i64 2, .int .i64 2]] X (GivesV (.int .i64 4456) X))
    (hft : ∀ X z A c A' c', M.ok X → Rd X A 64 c PB → Rd X (some ⟨z, 0, none⟩) 32 32 zz32 → Rd X A' 2216 c' SG → Calls Tryz.prog 14 #[.agg #[.int .i64 1, .int .i64 1], .slice A 64 c, .slice (some ⟨z, 0, none⟩) 32 32, .slice A' 2216 c'] X (GivesB true X))
    (hfn : ∀ X z A c, M.ok X → Rd X A 64 c PB → Rd X (some ⟨z, 0, none⟩) 32 32 zz32 → Calls Tryz.prog 14 #[.agg #[.int .i64 1, .int .i64 1], .slice A 64 c, .slice (some ⟨z, 0, none⟩) 32 32, .slice none 0 0] X (GivesB false X)) :
    Calls Tryz.prog 5 #[] w (GivesB true w) := by
  have HK := Lib.hid hk
  have HPB := Lib.hid hpb
  have HS1 := Lib.hid hs1
  have HS2 := Lib.hid hs2
  have HMY := Lib.hid hmy
  have HTT := Lib.hid htt
  have HZ1 := Lib.hid hz1
  have HZ2 := Lib.hid hz2
  have HFT := Lib.hid hft
  have HFN := Lib.hid hfn
  clear hk hpb hs1 hs2 hmy htt hz1 hz2 hft hfn
  have hmk : ∀ X, (Instr.makeSlice 24 (.int .i64 32) (.int .i64 32)).run Tryz.prog X = .ok (.slice (some ⟨X.heap.size, 0, none⟩) 32 32) (X.alloc (.cells (madeCells #[Value.int .u8 0] 32) 5)) := fun _ => by kernel_rfl
  have hmc := bv_zero 32
  generalize madeCells #[Value.int .u8 0] 32 = mc at hmk hmc
  obtain ⟨z, hz⟩ : ∃ z, w.heap.size = z := ⟨_, rfl⟩
  obtain ⟨w0, hw0⟩ : ∃ w0, w.alloc (.cells mc 5) = w0 := ⟨_, rfl⟩
  have B0 := Lib.hid (show Below w.heap.size w w0 by rw [← hw0]; exact (Below.refl _ _).alloc (Nat.le_refl _) _)
  have R0 := Lib.hid (show Rd w0 (some ⟨z, 0, none⟩) 32 32 zz32 by
    rw [← hw0, ← hz]
    obtain ⟨mc⟩ := mc
    simp only at hmc
    subst hmc
    have ho := own_lit_u8 w w.heap.size (List.replicate 32 0) (Nat.le_refl _) (by simp [maxLen])
    simp only [List.length_replicate] at ho
    exact Rd.own ho)
  go_enter Tryz.func5, Tryz.ntmps5
  go_upto_region 3 with (fail)
  obtain ⟨d, hd⟩ : ∃ d, w0.heap.size = d := ⟨_, rfl⟩
  obtain ⟨w1, hw1⟩ : ∃ w1, w0.alloc (.cells (mkA (some ⟨z, 0, none⟩) 32 32 (some ⟨z, 0, none⟩) 32 32 (some ⟨z, 0, none⟩) 32 32) 26) = w1 := ⟨_, rfl⟩
  have M1 := Lib.hid (show Bk w1 d 26 (mkA (some ⟨z, 0, none⟩) 32 32 (some ⟨z, 0, none⟩) 32 32 (some ⟨z, 0, none⟩) 32 32) by rw [← hw1]; exact Bk.newAt _ _ _ _ hd)
  have B1 := Lib.hid (show Below w.heap.size w w1 by rw [← hw1]; exact B0.out.alloc B0.out.size _)
  have R1 := Lib.hid (show Rd w1 (some ⟨z, 0, none⟩) 32 32 zz32 by rw [← hw1]; exact R0.out.alloc _)
  have s1 : w1.heap.size = d + 1 := by rw [← hw1]; simp [hd]
  first
    | rw [hw1, hd]
    | rw [hd]
    | skip
  clear hw1 hd hw0 hz hmk hmc
  go_upto_region 4 with (fail)
  obtain ⟨w2, hw2⟩ : ∃ w2, w1.alloc (.cells (shA 1 1) 23) = w2 := ⟨_, rfl⟩
  have X2 := Lib.hid (show Bk w2 (d + 1) 23 (shA 1 1) by rw [← hw2]; exact Bk.newAt _ _ _ _ s1)
  have M2 := Lib.hid (show Bk w2 d 26 (mkA (some ⟨z, 0, none⟩) 32 32 (some ⟨z, 0, none⟩) 32 32 (some ⟨z, 0, none⟩) 32 32) by rw [← hw2]; exact M1.out.alloc _)
  have B2 := Lib.hid (show Below w.heap.size w w2 by rw [← hw2]; exact B1.out.alloc B1.out.size _)
  have R2 := Lib.hid (show Rd w2 (some ⟨z, 0, none⟩) 32 32 zz32 by rw [← hw2]; exact R1.out.alloc _)
  first
    | rw [hw2]
    | skip
  clear hw2 s1
  have KS := Lib.hid (show ∀ X, Below w2.heap.size w2 X → X.cell? ⟨d + 1, 0, none⟩ = some (.int .i64 1) ∧ X.cell? ⟨d + 1, 1, none⟩ = some (.int .i64 1) ∧ X.cell? ⟨d, 0, none⟩ = some (.slice (some ⟨z, 0, none⟩) 32 32) ∧ X.cell? ⟨d, 1, none⟩ = some (.slice (some ⟨z, 0, none⟩) 32 32) ∧ X.cell? ⟨d, 2, none⟩ = some (.slice (some ⟨z, 0, none⟩) 32 32) from fun X hX =>
    ⟨(X2.out.below hX X2.out.lt).cell 0, (X2.out.below hX X2.out.lt).cell 1, (M2.out.below hX M2.out.lt).cell 0, (M2.out.below hX M2.out.lt).cell 1, (M2.out.below hX M2.out.lt).cell 2⟩)
  have BW := Lib.hid (show ∀ X, Below w2.heap.size w2 X → Below w.heap.size w X from fun X hX => B2.out.trans (hX.mono B2.out.size))
  have OK := Lib.hid (show ∀ X, Below w2.heap.size w2 X → M.ok X ∧ Rd X (some ⟨z, 0, none⟩) 32 32 zz32 from fun X hX => ⟨M.bel HK.out (BW.out X hX), R2.out.below hX⟩)
  have BR := Lib.hid (Below.refl w2.heap.size w2)
  obtain ⟨k0, k1, k2, k3, k4⟩ := KS.out _ BR.out
  go_upto_region 5 with (go_at_call 10; ((with_reducible refine (HPB.out _ z (OK.out _ BR.out).1 (OK.out _ BR.out).2).mono ?_); rintro e w3 ⟨A3, c3, rfl, r3, b3⟩; have P3 := Lib.hid r3; have B3 := Lib.hid b3; clear r3 b3))
  clear k0 k1 k2 k3 k4
  obtain ⟨k0, k1, k2, k3, k4⟩ := KS.out _ B3.out
  go_upto_region 6 with (go_at_call 7; ((with_reducible refine (HS1.out _ z (OK.out _ B3.out).1 (OK.out _ B3.out).2).mono ?_); rintro e w4 ⟨A4, c4, rfl, r4, b4⟩; have S4 := Lib.hid r4; have B4 := Lib.hid (B3.out.trans (b4.mono B3.out.size)); have P4 := Lib.hid (P3.out.below b4); clear r4 b4))
  clear k0 k1 k2 k3 k4
  obtain ⟨k0, k1, k2, k3, k4⟩ := KS.out _ B4.out
  go_upto_region 7 with (go_at_call 7; ((with_reducible refine (HS2.out _ z (OK.out _ B4.out).1 (OK.out _ B4.out).2).mono ?_); rintro e w5 ⟨A5, c5, rfl, r5, b5⟩; have S5 := Lib.hid (S4.out.below b5); have B5 := Lib.hid (B4.out.trans (b5.mono B4.out.size)); have P5 := Lib.hid (P4.out.below b5); clear r5 b5))
  clear k0 k1 k2 k3 k4
  obtain ⟨k0, k1, k2, k3, k4⟩ := KS.out _ B5.out
  go_wp2_with (first
    | (go_at_call 16; ((with_reducible refine (HMY.out _ (OK.out _ B5.out).1).mono ?_); rintro e w6 ⟨rfl, b6⟩; have B6 := Lib.hid (B5.out.trans (b6.mono B5.out.size)); have S6 := Lib.hid (S5.out.below b6); have P6 := Lib.hid (P5.out.below b6); obtain ⟨l0, l1, l2, l3, l4⟩ := KS.out _ B6.out; clear b6))
    | (go_at_call 17; ((with_reducible refine (HTT.out _ (OK.out _ B6.out).1).mono ?_); rintro e w7 ⟨rfl, b7⟩; have B7 := Lib.hid (B6.out.trans (b7.mono B6.out.size)); have S7 := Lib.hid (S6.out.below b7); have P7 := Lib.hid (P6.out.below b7); clear b7))
    | (go_at_call 18; ((with_reducible refine (HZ2.out _ (OK.out _ B7.out).1).mono ?_); rintro e w8 ⟨rfl, b8⟩; have B8 := Lib.hid (B7.out.trans (b8.mono B7.out.size)); have S8 := Lib.hid (S7.out.below b8); have P8 := Lib.hid (P7.out.below b8); obtain ⟨m0, m1, m2, m3, m4⟩ := KS.out _ B8.out; clear b8))
    | (go_at_call 18; ((with_reducible refine (HZ1.out _ (OK.out _ B8.out).1).mono ?_); rintro e w9 ⟨rfl, b9⟩; have B9 := Lib.hid (B8.out.trans (b9.mono B8.out.size)); have S9 := Lib.hid (S8.out.below b9); have P9 := Lib.hid (P8.out.below b9); obtain ⟨n0, n1, n2, n3, n4⟩ := KS.out _ B9.out; clear b9))
    | (go_at_call 14; ((with_reducible refine (HFT.out _ z A3 c3 A4 c4 (OK.out _ B9.out).1 P9.out (OK.out _ B9.out).2 S9.out).mono ?_); rintro e w10 ⟨rfl, b10⟩; have B10 := Lib.hid (B9.out.trans (b10.mono B9.out.size)); have P10 := Lib.hid (P9.out.below b10); obtain ⟨o0, o1, o2, o3, o4⟩ := KS.out _ B10.out; clear b10))
    | (go_at_call 14; ((with_reducible refine (HFN.out _ z A3 c3 (OK.out _ B10.out).1 P10.out (OK.out _ B10.out).2).mono ?_); rintro e w11 ⟨rfl, b11⟩; have B11 := Lib.hid (B10.out.trans (b11.mono B10.out.size)); clear b11)))
  go_ret
  exact ⟨rfl, BW.out _ B11.out⟩
theorem zz_len : zz32.length = 32 := by simp
theorem putL_mod' (V n : Nat) : getL (putL V n) = V % 256 ^ n := by
  have gen : ∀ (n a : Nat), (putL V n).foldl (fun v c => v * 256 + c.toNat) a = a * 256 ^ n + V % 256 ^ n := by
    intro n
    induction n with
    | zero => intro a; simp [putL, Nat.mod_one]
    | succ n ih =>
      intro a
      rw [putL, List.foldl_cons, ih]
      have e : (UInt8.ofNat (V / 256 ^ n)).toNat = V / 256 ^ n % 256 := by simp
      have h : V % 256 ^ (n + 1) = V / 256 ^ n % 256 * 256 ^ n + V % 256 ^ n := by
        rw [Nat.pow_succ, Nat.mod_mul, Nat.add_comm, Nat.mul_comm]
      rw [e, h, Nat.pow_succ, Nat.add_mul, Nat.add_assoc]
      congr 1
      rw [Nat.mul_assoc, Nat.mul_comm 256]
  simpa [getL] using gen n 0
theorem putL_mod16 (n : Nat) (hn : n < 18446744073709551616) : getL (putL n 8) = n := by
  rw [putL_mod']
  exact Nat.mod_eq_of_lt (by simpa using hn)
theorem awake16 (M : XC) (w : World) (hk : M.ok w) : Calls Tryz.prog 5 #[] w (GivesB true w) := by
  have hz := zz_len
  have hm : madeX 1 1 zz32.length zz32.length zz32.length = true := by rw [hz]; rfl
  have hm1 : mayX 1 1 = true := rfl
  have t1 : totN 1 1 = 2 := rfl
  have e1 : pubX 1 1 zz32 zz32 zz32 = pubN zz32 zz32 1 1 := by rw [pubX, if_pos hm]; rfl
  have e2 : sigX 1 1 zz32 zz32 zz32 1 zz32 = sigN zz32 zz32 zz32 1 1 1 zz32 := by rw [sigX, if_pos ⟨hm, by rw [hz]; omega, by show 1 < totN 1 1; rw [t1]; omega⟩]; rfl
  have e3 : codeX 1 1 zz32 zz32 zz32 1 zz32 = 0 := by rw [codeX, if_pos ⟨hm, by rw [hz]; omega⟩, if_pos (by show 1 < totN 1 1; rw [t1]; omega)]
  have e4 : sigX 1 1 zz32 zz32 zz32 2 zz32 = [] := by rw [sigX, if_neg]; rintro ⟨_, _, h⟩; have : 2 < totN 1 1 := h; rw [t1] at this; omega
  have e5 : codeX 1 1 zz32 zz32 zz32 2 zz32 = 9 := by rw [codeX, if_pos ⟨hm, by rw [hz]; omega⟩, if_neg (by show ¬ 2 < totN 1 1; rw [t1]; omega)]
  have l1 : (pubN zz32 zz32 1 1).length = 64 := pub_len _ _ _ _ hz
  have l2 : (sigN zz32 zz32 zz32 1 1 1 zz32).length = 2216 := sig_len _ _ _ _ _ _ _
  have e6 : fitX 1 1 (pubN zz32 zz32 1 1) zz32 (sigN zz32 zz32 zz32 1 1 1 zz32) = true := by
    rw [fitX, if_pos ⟨hm1, l1, l2, by rw [hz]; omega⟩]
    exact fits_signed zz32 zz32 zz32 1 1 1 zz32 hz (by omega) (by rw [t1]; omega) (by omega) (putL_mod16 1 (by omega))
  have e7 : fitX 1 1 (pubN zz32 zz32 1 1) zz32 [] = false := cut_unfit 1 1 _ _ _ (by show 0 ≠ sizeX 1 1; decide)
  generalize pubN zz32 zz32 1 1 = PB at *
  generalize sigN zz32 zz32 zz32 1 1 1 zz32 = SG at *
  refine awake16_core M w hk PB SG ?_ ?_ ?_ ?_ ?_ ?_ ?_ ?_ ?_
  · intro X z g h
    have h9 := M.pub 1 1 (some ⟨z, 0, none⟩) 32 32 zz32 (some ⟨z, 0, none⟩) 32 32 zz32 (some ⟨z, 0, none⟩) 32 32 zz32 X g h h h
    rw [e1] at h9
    exact h9.mono fun _ _ h => givesN h l1
  · intro X z g h
    have h9 := M.sign 1 1 (some ⟨z, 0, none⟩) 32 32 zz32 (some ⟨z, 0, none⟩) 32 32 zz32 (some ⟨z, 0, none⟩) 32 32 zz32 1 (some ⟨z, 0, none⟩) 32 32 zz32 X g h h h (by omega) h
    rw [e2, e3] at h9
    exact h9.mono fun _ _ h => givesSN h l2
  · intro X z g h
    have h9 := M.sign 1 1 (some ⟨z, 0, none⟩) 32 32 zz32 (some ⟨z, 0, none⟩) 32 32 zz32 (some ⟨z, 0, none⟩) 32 32 zz32 2 (some ⟨z, 0, none⟩) 32 32 zz32 X g h h h (by omega) h
    rw [e4, e5] at h9
    exact h9.mono fun _ _ h => givesSN h rfl
  · intro X g
    exact M.may 1 1 X g
  · intro X g
    exact M.total 1 1 X g
  · intro X g
    exact M.size 1 1 X g
  · intro X g
    exact M.size 2 2 X g
  · intro X z A c A' c' g h1 h2 h3
    have h9 := M.fits 1 1 A 64 c PB (some ⟨z, 0, none⟩) 32 32 zz32 A' 2216 c' SG X g h1 h2 h3
    rw [e6] at h9
    exact h9
  · intro X z A c g h1 h2
    have h9 := M.fits 1 1 A 64 c PB (some ⟨z, 0, none⟩) 32 32 zz32 none 0 0 [] X g h1 h2 (Rd.nil_ X)
    rw [e7] at h9
    exact h9
end Go.Proofs.YtkpfppiedadmbaaGreatDoor.S16
