/-
  Texts put together: XmU, XmK, XmL. No statement is proved here.
-/
import Derived.Test.YtkpfppiedadmbaaDoorWn30
import Derived.Test.YtkpfppiedadmbaaDoorWn23

/-
  The walk of layer 16's sixth statement. No statement is proved here. (Written by genxmu.py.)
-/
namespace Go.Proofs.YtkpfppiedadmbaaDoor.S16
set_option linter.unusedSimpArgs false
set_option linter.unusedVariables false
set_option maxRecDepth 4096
open Go.RowKit S15

set_option maxHeartbeats 8000000 in
theorem xmssAll_walk (M : XC) (w : World) (hk : M.ok w) (As : Option Addr) (ns cs : Nat) (sec : List UInt8) (hs : Rd w As ns cs sec) (Al : Option Addr) (nl cl : Nat) (salt : List UInt8) (hl : Rd w Al nl cl salt) (Ae : Option Addr) (ne ce : Nat) (sd : List UInt8) (he : Rd w Ae ne ce sd) (At : Option Addr) (nt ct : Nat) (text : List UInt8) (ht : Rd w At nt ct text) :
    Calls Tryd.prog 6 #[.agg (mkA As ns cs Al nl cl Ae ne ce), .slice At nt ct] w (GivesB true w) := by
  have HK := Lib.hid hk
  obtain ⟨g, hg⟩ : ∃ g, w.heap.size = g := ⟨_, rfl⟩
  obtain ⟨w0, hw0⟩ : ∃ w0, w.alloc (.cells (mkA As ns cs Al nl cl Ae ne ce) 31) = w0 := ⟨_, rfl⟩
  have M0 := Lib.hid (show Bk w0 g 31 (mkA As ns cs Al nl cl Ae ne ce) by rw [← hw0, ← hg]; exact Bk.new _ _ _)
  have B0 := Lib.hid (show Below w.heap.size w w0 by rw [← hw0]; exact (Below.refl _ _).alloc (Nat.le_refl _) _)
  by_cases c1 : ns = 32
  case neg =>
    have t1 : ((ns : Int) != 32) = true := by simp; omega
    clear c1 hk hs hl he ht
    go_enter Tryd.func6, Tryd.ntmps6
    go_upto_region 1 with (fail)
    clear hw0 hg
    go_upto_region 4 with (go_at_call 7; ((with_reducible refine (awake16 M _ (M.bel HK.out B0.out)).mono ?_); rintro e w1 ⟨rfl, b1⟩; have B1 := Lib.hid (B0.out.trans (b1.mono B0.out.size)); have M1 := Lib.hid (M0.out.below b1 M0.out.lt); have k0 := M1.out.cell 0; have k1 := M1.out.cell 1; have k2 := M1.out.cell 2; simp only [List.getElem?_toArray, List.getElem?_cons_zero, List.getElem?_cons_succ] at k0 k1 k2; clear b1))
    have M2 := Lib.hid (M1.out.alloc (.cells (shA 1 2) 23))
    have B2 := Lib.hid (B1.out.alloc B1.out.size (.cells (shA 1 2) 23))
    clear k0 k1 k2
    have k0 := M2.out.cell 0
    have k1 := M2.out.cell 1
    have k2 := M2.out.cell 2
    simp only [List.getElem?_toArray, List.getElem?_cons_zero, List.getElem?_cons_succ] at k0 k1 k2
    go_wp2
    go_ret
    exact ⟨rfl, B2.out⟩
  have t1 : ((ns : Int) != 32) = false := by simp; omega
  by_cases c2 : nl = 32
  case neg =>
    have t2 : ((nl : Int) != 32) = true := by simp; omega
    clear c1 c2 hk hs hl he ht
    go_enter Tryd.func6, Tryd.ntmps6
    go_upto_region 1 with (fail)
    clear hw0 hg
    go_upto_region 4 with (go_at_call 7; ((with_reducible refine (awake16 M _ (M.bel HK.out B0.out)).mono ?_); rintro e w1 ⟨rfl, b1⟩; have B1 := Lib.hid (B0.out.trans (b1.mono B0.out.size)); have M1 := Lib.hid (M0.out.below b1 M0.out.lt); have k0 := M1.out.cell 0; have k1 := M1.out.cell 1; have k2 := M1.out.cell 2; simp only [List.getElem?_toArray, List.getElem?_cons_zero, List.getElem?_cons_succ] at k0 k1 k2; clear b1))
    have M2 := Lib.hid (M1.out.alloc (.cells (shA 1 2) 23))
    have B2 := Lib.hid (B1.out.alloc B1.out.size (.cells (shA 1 2) 23))
    clear k0 k1 k2
    have k0 := M2.out.cell 0
    have k1 := M2.out.cell 1
    have k2 := M2.out.cell 2
    simp only [List.getElem?_toArray, List.getElem?_cons_zero, List.getElem?_cons_succ] at k0 k1 k2
    go_wp2
    go_ret
    exact ⟨rfl, B2.out⟩
  have t2 : ((nl : Int) != 32) = false := by simp; omega
  by_cases c3 : ne = 32
  case neg =>
    have t3 : ((ne : Int) != 32) = true := by simp; omega
    clear c1 c2 c3 hk hs hl he ht
    go_enter Tryd.func6, Tryd.ntmps6
    go_upto_region 1 with (fail)
    clear hw0 hg
    go_upto_region 4 with (go_at_call 7; ((with_reducible refine (awake16 M _ (M.bel HK.out B0.out)).mono ?_); rintro e w1 ⟨rfl, b1⟩; have B1 := Lib.hid (B0.out.trans (b1.mono B0.out.size)); have M1 := Lib.hid (M0.out.below b1 M0.out.lt); have k0 := M1.out.cell 0; have k1 := M1.out.cell 1; have k2 := M1.out.cell 2; simp only [List.getElem?_toArray, List.getElem?_cons_zero, List.getElem?_cons_succ] at k0 k1 k2; clear b1))
    have M2 := Lib.hid (M1.out.alloc (.cells (shA 1 2) 23))
    have B2 := Lib.hid (B1.out.alloc B1.out.size (.cells (shA 1 2) 23))
    clear k0 k1 k2
    have k0 := M2.out.cell 0
    have k1 := M2.out.cell 1
    have k2 := M2.out.cell 2
    simp only [List.getElem?_toArray, List.getElem?_cons_zero, List.getElem?_cons_succ] at k0 k1 k2
    go_wp2
    go_ret
    exact ⟨rfl, B2.out⟩
  by_cases c4 : 100 < nt
  · have t3 : ((ne : Int) != 32) = false := by simp; omega
    have t4 : (100 : Int) < (nt : Int) := by omega
    clear c1 c2 c3 c4 hk hs hl he ht
    go_enter Tryd.func6, Tryd.ntmps6
    go_upto_region 1 with (fail)
    clear hw0 hg
    go_upto_region 4 with (go_at_call 7; ((with_reducible refine (awake16 M _ (M.bel HK.out B0.out)).mono ?_); rintro e w1 ⟨rfl, b1⟩; have B1 := Lib.hid (B0.out.trans (b1.mono B0.out.size)); have M1 := Lib.hid (M0.out.below b1 M0.out.lt); have k0 := M1.out.cell 0; have k1 := M1.out.cell 1; have k2 := M1.out.cell 2; simp only [List.getElem?_toArray, List.getElem?_cons_zero, List.getElem?_cons_succ] at k0 k1 k2; clear b1))
    have M2 := Lib.hid (M1.out.alloc (.cells (shA 1 2) 23))
    have B2 := Lib.hid (B1.out.alloc B1.out.size (.cells (shA 1 2) 23))
    clear k0 k1 k2
    have k0 := M2.out.cell 0
    have k1 := M2.out.cell 1
    have k2 := M2.out.cell 2
    simp only [List.getElem?_toArray, List.getElem?_cons_zero, List.getElem?_cons_succ] at k0 k1 k2
    go_wp2
    go_ret
    exact ⟨rfl, B2.out⟩
  have t4 : ¬ (100 : Int) < (nt : Int) := by omega
  subst c1 c2 c3
  clear t1 t2
  have hmd : madeX 1 2 sec.length salt.length sd.length = true := by rw [hs.len, hl.len, he.len]; rfl
  have hm1 : mayX 1 2 = true := rfl
  have htl : text.length ≤ 65536 := by rw [ht.len]; omega
  have tt : totN 1 2 = 4 := rfl
  have CP := Lib.hid (show ∀ X, Below w.heap.size w X → Calls Tryd.prog 16 #[.agg #[.int .i64 1, .int .i64 2], .agg #[.slice As 32 cs, .slice Al 32 cl, .slice Ae 32 ce]] X (GivesN X 64 (pubN sec sd 1 2)) from fun X hX => by
    have h9 := M.pub 1 2 As 32 cs sec Al 32 cl salt Ae 32 ce sd X (M.bel hk hX) (hs.below hX) (hl.below hX) (he.below hX)
    rw [show pubX 1 2 sec salt sd = pubN sec sd 1 2 from by rw [pubX, if_pos hmd]; rfl] at h9
    exact h9.mono fun _ _ h => givesN h (pub_len _ _ _ _ he.len))
  have CS := Lib.hid (show ∀ X (v : Nat), Below w.heap.size w X → v < 4 → Calls Tryd.prog 17 #[.agg #[.int .i64 1, .int .i64 2], .agg #[.slice As 32 cs, .slice Al 32 cl, .slice Ae 32 ce], .int .u64 (v : Int), .slice At nt ct] X (GivesSN X 2248 (sigN sec salt sd 1 2 v text) 0) from fun X v hX hv => by
    have h9 := M.sign 1 2 As 32 cs sec Al 32 cl salt Ae 32 ce sd v At nt ct text X (M.bel hk hX) (hs.below hX) (hl.below hX) (he.below hX) (by omega) (ht.below hX)
    rw [show sigX 1 2 sec salt sd v text = sigN sec salt sd 1 2 v text from by rw [sigX, if_pos ⟨hmd, htl, by show v < totN 1 2; omega⟩]; rfl, show codeX 1 2 sec salt sd v text = 0 from by rw [codeX, if_pos ⟨hmd, htl⟩, if_pos (by show v < totN 1 2; omega)]] at h9
    exact h9.mono fun _ _ h => givesSN h (sig_len _ _ _ _ _ _ _))
  have CX := Lib.hid (show ∀ X, Below w.heap.size w X → Calls Tryd.prog 17 #[.agg #[.int .i64 1, .int .i64 2], .agg #[.slice As 32 cs, .slice Al 32 cl, .slice Ae 32 ce], .int .u64 4, .slice At nt ct] X (GivesSN X 0 [] 9) from fun X hX => by
    have h9 := M.sign 1 2 As 32 cs sec Al 32 cl salt Ae 32 ce sd 4 At nt ct text X (M.bel hk hX) (hs.below hX) (hl.below hX) (he.below hX) (by omega) (ht.below hX)
    rw [show sigX 1 2 sec salt sd 4 text = [] from by rw [sigX, if_neg fun c => by have := c.2.2; exact absurd (show 4 < totN 1 2 from this) (by omega)], show codeX 1 2 sec salt sd 4 text = 9 from by rw [codeX, if_pos ⟨hmd, htl⟩, if_neg (by show ¬ 4 < totN 1 2; omega)]] at h9
    exact h9.mono fun _ _ h => givesSN h rfl)
  have CF := Lib.hid (show ∀ X (v : Nat) A c A' c', Below w.heap.size w X → v < 4 → Rd X A 64 c (pubN sec sd 1 2) → Rd X A' 2248 c' (sigN sec salt sd 1 2 v text) → Calls Tryd.prog 18 #[.agg #[.int .i64 1, .int .i64 2], .slice A 64 c, .slice At nt ct, .slice A' 2248 c'] X (GivesB true X) from fun X v A c A' c' hX hv h1 h2 => by
    have h9 := M.fits 1 2 A 64 c _ At nt ct text A' 2248 c' _ X (M.bel hk hX) h1 (ht.below hX) h2
    rw [show fitX 1 2 (pubN sec sd 1 2) text (sigN sec salt sd 1 2 v text) = true from by
      rw [fitX, if_pos ⟨hm1, pub_len _ _ _ _ he.len, sig_len _ _ _ _ _ _ _, htl⟩]
      exact fits_signed sec salt sd 1 2 v text he.len (by omega) (by show v < totN 1 2; omega) (by omega) (putL_mod16 v (by omega))] at h9
    exact h9)
  have CT := Lib.hid (show ∀ X, Below w.heap.size w X → Calls Tryd.prog 10 #[.agg #[.int .i64 1, .int .i64 2]] X (GivesV (.int .u64 4) X) from fun X hX => M.total 1 2 X (M.bel hk hX))
  clear hk hs hl he ht hmd hm1 htl tt c4
  generalize pubN sec sd 1 2 = PB at *
  go_enter Tryd.func6, Tryd.ntmps6
  go_upto_region 1 with (fail)
  clear hw0 hg
  go_upto_region 4 with (go_at_call 7; ((with_reducible refine (awake16 M _ (M.bel HK.out B0.out)).mono ?_); rintro e w1 ⟨rfl, b1⟩; have B1 := Lib.hid (B0.out.trans (b1.mono B0.out.size)); have M1 := Lib.hid (M0.out.below b1 M0.out.lt); have k0 := M1.out.cell 0; have k1 := M1.out.cell 1; have k2 := M1.out.cell 2; simp only [List.getElem?_toArray, List.getElem?_cons_zero, List.getElem?_cons_succ] at k0 k1 k2; clear b1))
  clear k0 k1 k2
  obtain ⟨d, hd⟩ : ∃ d, w1.heap.size = d := ⟨_, rfl⟩
  obtain ⟨w2, hw2⟩ : ∃ w2, w1.alloc (.cells (shA 1 2) 23) = w2 := ⟨_, rfl⟩
  have X2 := Lib.hid (show Bk w2 d 23 (shA 1 2) by rw [← hw2]; exact Bk.newAt _ _ _ _ hd)
  have M2 := Lib.hid (show Bk w2 g 31 (mkA As 32 cs Al 32 cl Ae 32 ce) by rw [← hw2]; exact M1.out.alloc _)
  have B2 := Lib.hid (show Below w.heap.size w w2 by rw [← hw2]; exact B1.out.alloc B1.out.size _)
  first
    | rw [hw2, hd]
    | rw [hd]
    | skip
  clear hw2 hd
  have KS := Lib.hid (show ∀ X, Below w2.heap.size w2 X → X.cell? ⟨d, 0, none⟩ = some (.int .i64 1) ∧ X.cell? ⟨d, 1, none⟩ = some (.int .i64 2) ∧ X.cell? ⟨g, 0, none⟩ = some (.slice As 32 cs) ∧ X.cell? ⟨g, 1, none⟩ = some (.slice Al 32 cl) ∧ X.cell? ⟨g, 2, none⟩ = some (.slice Ae 32 ce) from fun X hX => ⟨(X2.out.below hX X2.out.lt).cell 0, (X2.out.below hX X2.out.lt).cell 1, (M2.out.below hX M2.out.lt).cell 0, (M2.out.below hX M2.out.lt).cell 1, (M2.out.below hX M2.out.lt).cell 2⟩)
  have NX := Lib.hid (show ∀ X Y, Below w2.heap.size w2 X → Below X.heap.size X Y → Below w2.heap.size w2 Y from fun X Y h h' => h.trans (h'.mono h.size))
  have BW := Lib.hid (show ∀ X, Below w2.heap.size w2 X → Below w.heap.size w X from fun X hX => B2.out.trans (hX.mono B2.out.size))
  have BR := Lib.hid (Below.refl w2.heap.size w2)
  obtain ⟨k0, k1, k2, k3, k4⟩ := KS.out _ BR.out
  go_upto_region 7 with (go_at_call 16; ((with_reducible refine (CP.out _ (BW.out _ BR.out)).mono ?_); rintro e w3 ⟨A3, c3, rfl, r3, b3⟩; have P3 := Lib.hid r3; have B3 := Lib.hid b3; clear r3 b3))
  clear k0 k1 k2 k3 k4
  go_wp2
  go_loopw [7] (fun nv wr => ∃ v : Nat, (v = 0 ∨ v = 3 ∨ v = 6) ∧ nv = .int .u64 (v : Int) ∧ Below w2.heap.size w2 wr ∧ Rd wr A3 64 c3 PB) (fun nv _ => 6 - (intOf nv).toNat)
  case atStart => exact ⟨0, .inl rfl, rfl, B3.out, P3.out⟩
  case round =>
    obtain ⟨v, hv, rfl, hbel, hp⟩ := hrel
    have BV := Lib.hid hbel
    have PV := Lib.hid hp
    obtain ⟨k0, k1, k2, k3, k4⟩ := KS.out _ hbel
    clear hbel hp
    by_cases hlt : v < 4
    · have t0 : (v : Int) < 4 := by omega
      have x1 : IntKind.u64.wrap ((v : Int) + 3) = ((v + 3 : Nat) : Int) := by rw [IntKind.wrap_u64]; omega
      have HVV := Lib.hid (show v + 3 = 3 ∨ v + 3 = 6 by omega)
      go_wp2_with (first
        | (go_at_call 17; ((with_reducible refine (CS.out _ v (BW.out _ BV.out) hlt).mono ?_); rintro e w4 ⟨A4, c4, rfl, r4, b4⟩; have S4 := Lib.hid r4; have B4 := Lib.hid (NX.out _ _ BV.out b4); have P4 := Lib.hid (PV.out.below b4); obtain ⟨l0, l1, l2, l3, l4⟩ := KS.out _ B4.out; clear r4 b4))
        | (go_at_call 18; ((with_reducible refine (CF.out _ v A3 c3 A4 c4 (BW.out _ B4.out) hlt P4.out S4.out).mono ?_); rintro e w5 ⟨rfl, b5⟩; have B5 := Lib.hid (NX.out _ _ B4.out b5); have P5 := Lib.hid (P4.out.below b5); clear b5)))
      go_roundw
      case rel => exact ⟨v + 3, by have := HVV.out; omega, by go_num, B5.out, P5.out⟩
      case measure => simp [intOf]; omega
    · have t0 : ¬ (v : Int) < 4 := by omega
      go_wp2_with (first
        | (go_at_call 17; ((with_reducible refine (CX.out _ (BW.out _ BV.out)).mono ?_); rintro e w4 ⟨A4, c4, rfl, r4, b4⟩; have B4 := Lib.hid (NX.out _ _ BV.out b4); obtain ⟨l0, l1, l2, l3, l4⟩ := KS.out _ B4.out; clear r4 b4))
        | (go_at_call 10; ((with_reducible refine (CT.out _ (BW.out _ B4.out)).mono ?_); rintro e w5 ⟨rfl, b5⟩; have B5 := Lib.hid (NX.out _ _ B4.out b5); clear b5)))
      go_ret
      exact ⟨rfl, BW.out _ B5.out⟩
end Go.Proofs.YtkpfppiedadmbaaDoor.S16

/-
  The landed package xmss: one tree more, one row more. No statement is proved here.
-/
namespace Go.Proofs.YtkpfppiedadmbaaDoor.S16
set_option linter.unusedSimpArgs false
set_option linter.unusedVariables false
set_option maxRecDepth 1024
open Go.RowKit S15 RD

theorem Tryd.infoSums : (Tryd.prog.info? 58).map (fun i => (i.zero, i.size, i.bytes)) = some (some (.slice none 0 0), 1, 24) := by kernel_rfl
theorem grown_set (X : World) (g i : Nat) (v : Value) : X.grownBy (X.setCell ⟨g, i, none⟩ v) (some g) := by
  have h := (Below.refl g X).setCell (p := ⟨g, i, none⟩) (Nat.le_refl _) v
  exact ⟨h.os, h.tape, h.output, h.size, fun k _ hk => Below.heap_setCell X ⟨g, i, none⟩ v k fun e => hk (by rw [show k = g from e])⟩
theorem own_cells {w : World} {B e n b : Nat} {v : Value} {xs : List Value} (h : w.ownsRow B e 1 v n xs) (hb : v.ownBlock = some b) : ∃ o : Obj, w.heap[b]? = some o ∧ o.isCells = true := by
  rcases h.2 with ⟨rfl, _⟩ | ⟨g, cap, cur, rfl, _, hh, _⟩
  · simp [Value.ownBlock] at hb
  · simp [Value.ownBlock] at hb
    subst hb
    exact ⟨_, hh, rfl⟩
theorem Gr.far {P : El} {T : TypeId} {w : World} {B n q g : Nat} {v u : Value} {vs : List Value} (hP : FP P) (h : Gr P T w B v n q vs) (hg : g < B) (i : Nat) : Gr P T (w.setCell ⟨g, i, none⟩ u) B v n q vs :=
  h.keep hP (grown_set w g i u) fun b e => by cases e; exact hg
/-- One tree more. -/
theorem TI.step {w wL W X1 X3 : World} {sec sd : List UInt8} {h n ET bn k z gg cap c5 : Nat} {v : Value} {vs : List Value} {A5 : Option Addr} (hw : w.heap.size ≤ ET) (hd : ET < bn) (hb : bn < wL.heap.size) (hI : TI w wL sec sd h n ET bn k z W) (hzw : wL.heap.size ≤ z) (hz : z ≤ W.heap.size)
    (hB : Bk W ET 51 #[v]) (hR : Gr (treesE sec sd h n) 58 W wL.heap.size v k k vs) (hlt : ∀ b, v.ownBlock = some b → b < z)
    (b5 : Below W.drew.heap.size W.drew X1) (s5 : Sl (treeE sec sd k (nT h n (k + 1)) h) X1 (fun b => W.drew.heap.size ≤ b) A5 (h + 1) c5)
    (o3 : X3.ownsRow wL.heap.size 58 1 (.slice (some ⟨gg, 0, none⟩) (k + 1) cap) (k + 1) (vs ++ [.slice A5 (h + 1) c5])) (g3 : (X1.alloc (.cells #[.slice A5 (h + 1) c5] 58)).grownBy X3 v.ownBlock) (a3 : v.ownBlock = some gg ∨ gg = X1.heap.size + 1) (l3 : gg < X3.heap.size) :
    KeepsFrom wL.heap.size W (X3.setCell ⟨ET, 0, none⟩ (.slice (some ⟨gg, 0, none⟩) (k + 1) cap)) ∧ (∀ (b : Nat) (o : Obj), z ≤ b → W.heap[b]? = some o → o.isCells = true → (X3.setCell ⟨ET, 0, none⟩ (.slice (some ⟨gg, 0, none⟩) (k + 1) cap)).heap[b]? = some o) ∧
      Bk (X3.setCell ⟨ET, 0, none⟩ (.slice (some ⟨gg, 0, none⟩) (k + 1) cap)) bn 26 #[.int .u64 ((nT h n k : Nat) : Int)] ∧
      ∀ z', (X3.setCell ⟨ET, 0, none⟩ (.slice (some ⟨gg, 0, none⟩) (k + 1) cap)).heap.size ≤ z' → TI w wL sec sd h n ET bn (k + 1) z' ((X3.setCell ⟨ET, 0, none⟩ (.slice (some ⟨gg, 0, none⟩) (k + 1) cap)).setCell ⟨bn, 0, none⟩ (.int .u64 ((nT h n (k + 1) : Nat) : Int))) := by
  have hbW : Below W.heap.size W X1 := (Below.refl _ _).drew.trans b5
  have hbA : Below W.heap.size W (X1.alloc (.cells #[.slice A5 (h + 1) c5] 58)) := hbW.alloc hbW.size _
  have hrow : ∀ r, v.ownBlock = some r → wL.heap.size ≤ r := fun r e => (hR.own.lt r e).1
  have k3 : KX W.heap.size (fun b => b = ET ∨ v.ownBlock = some b) W X3 := (KX.bel hbA (Nat.le_refl _)).trans (KX.grown' g3 hbA.size fun r e => .inr (.inr e))
  have k8 : KX W.heap.size (fun b => b = ET ∨ v.ownBlock = some b) W (X3.setCell ⟨ET, 0, none⟩ (.slice (some ⟨gg, 0, none⟩) (k + 1) cap)) := k3.trans (KX.set (.inl rfl) _ _ _)
  have hkw := hI.ke.size
  have hbn : Bk (X3.setCell ⟨ET, 0, none⟩ (.slice (some ⟨gg, 0, none⟩) (k + 1) cap)) bn 26 #[.int .u64 ((nT h n k : Nat) : Int)] := k8.bk hI.box hI.box.lt (by
    rintro (e | e)
    · omega
    · have := hrow _ e; omega)
  have hE3 : Bk X3 ET 51 #[v] := (hB.below hbA hB.lt).only g3 (fun e => by have := hrow _ e.symm; omega)
  refine ⟨⟨k8.size, fun b o hb' ho hoc => (k8.same b (Array.getElem?_eq_some_iff.1 ho).1 ?_).trans ho⟩, fun b o hb' ho hoc => (k8.same b (Array.getElem?_eq_some_iff.1 ho).1 ?_).trans ho, hbn, fun z' hz' => ⟨?_, ?_, hbn.put 0 _, .slice (some ⟨gg, 0, none⟩) (k + 1) cap, vs ++ [.slice A5 (h + 1) c5], ?_, ?_, ?_⟩⟩
  · rintro (e | e)
    · omega
    · obtain ⟨o', h1, h2⟩ := own_cells hR.own e
      rw [ho] at h1
      cases h1
      rw [hoc] at h2
      cases h2
  · rintro (e | e)
    · omega
    · have := hlt _ e; omega
  · refine (hI.ke.trans (k8.mono hkw fun b hb' e => ?_)).trans (KX.set (.inr rfl) _ _ _)
    rcases e with e | e
    · exact .inl e
    · have := hrow _ e; omega
  · have h1 : Below w.heap.size w X3 := (hI.bel.trans (hbA.mono hI.bel.size)).grown g3 (Nat.le_trans hI.bel.size hbA.size) (fun r e => by have := hrow _ e; omega)
    exact (h1.setCell (p := ⟨ET, 0, none⟩) hw _).setCell (p := ⟨bn, 0, none⟩) (by show w.heap.size ≤ bn; omega) _
  · exact (hE3.put 0 _).far (by show ET ≠ bn; omega) _
  · have h1 : Gr (treesE sec sd h n) 58 X3 wL.heap.size (.slice (some ⟨gg, 0, none⟩) (k + 1) cap) (k + 1) (k + 1) (vs ++ [.slice A5 (h + 1) c5]) := by
      refine (hR.below (treesE_fp _ _ _ _) hbA).push (treesE_fp _ _ _ _) o3 g3 ?_ fun i hi => ?_
      · rcases a3 with a3 | a3
        · exact .inl a3.symm
        · exact .inr (by simp [Value.ownBlock, a3])
      · obtain rfl : i = 0 := by omega
        refine ⟨_, rfl, A5, c5, rfl, ?_⟩
        refine (s5.below (treeE_fp _ _ _ _ _) ((Below.refl _ _).alloc (Nat.le_refl _) _)).weak (treeE_fp _ _ _ _ _) fun b hb' => ⟨?_, fun e => ?_⟩
        · have : W.drew.heap.size = W.heap.size := rfl
          omega
        · have h2 := hlt b e
          have : W.drew.heap.size = W.heap.size := rfl
          omega
    exact (h1.far (treesE_fp _ _ _ _) (by omega) 0).far (treesE_fp _ _ _ _) hb 0
  · intro b e
    simp [Value.ownBlock] at e
    simp at hz'
    omega
end Go.Proofs.YtkpfppiedadmbaaDoor.S16

/-
  The landed package xmss: parts put behind others. No statement is proved here.
-/
namespace Go.Proofs.YtkpfppiedadmbaaDoor.S16
set_option linter.unusedSimpArgs false
set_option linter.unusedVariables false
set_option maxRecDepth 1024
open Go.RowKit S15 RD

/-- Rows are not touched where a box of no byte is set. -/
theorem Gr.boxR {f : Nat → List UInt8} {T T' : TypeId} {w : World} {B n q g : Nat} {v u0 u : Value} {vs : List Value} (h : Gr (rowE f) T w B v n q vs) (hb : Bk w g T' #[u0]) (hu : ∀ x : UInt8, u0 ≠ .int .u8 (x.toNat : Int)) (hv : v.ownBlock ≠ some g) : Gr (rowE f) T (w.setCell ⟨g, 0, none⟩ u) B v n q vs :=
  ⟨own_only h.own (grown_set w g 0 u) hv, fun j hj => by
    obtain ⟨x, h1, A, m, c, rfl, h2, h3⟩ := h.el j hj
    exact ⟨_, h1, A, m, c, rfl, rd_box h2 hb hu 0 u, h3⟩⟩
theorem push_step {f : Nat → List UInt8} {w W Y Y1 X3 : World} {E2 : Nat → Prop} {EP cnt m gg cap : Nat} {v : Value} {vs news : List Value}
    (hk : KX W.heap.size E2 W Y) (hb : Below w.heap.size w Y) (hEP : E2 EP) (hw : w.heap.size ≤ EP) (hB : Bk Y EP 65 #[v]) (hR : Gr (rowE f) 29 Y w.heap.size v cnt cnt vs) (hv : v.ownBlock ≠ some EP) (hown : ∀ r, v.ownBlock = some r → W.heap.size ≤ r ∨ E2 r) (hn0 : 0 < cnt)
    (b1 : Below Y.heap.size Y Y1) (hn : ∀ i, i < m → ∃ u, news[i]? = some u ∧ rowE f Y1 (fun b => w.heap.size ≤ b ∧ v.ownBlock ≠ some b) (cnt + i) u)
    (o3 : X3.ownsRow w.heap.size 29 1 (.slice (some ⟨gg, 0, none⟩) (cnt + m) cap) (cnt + m) (vs ++ news)) (g3 : Y1.grownBy X3 v.ownBlock) (a3 : v.ownBlock = some gg ∨ gg = Y1.heap.size) (l3 : gg < X3.heap.size) :
    KX W.heap.size E2 W X3 ∧ Bk X3 EP 65 #[v] ∧ KX W.heap.size E2 W (X3.setCell ⟨EP, 0, none⟩ (.slice (some ⟨gg, 0, none⟩) (cnt + m) cap)) ∧ Below w.heap.size w (X3.setCell ⟨EP, 0, none⟩ (.slice (some ⟨gg, 0, none⟩) (cnt + m) cap)) ∧
      Bk (X3.setCell ⟨EP, 0, none⟩ (.slice (some ⟨gg, 0, none⟩) (cnt + m) cap)) EP 65 #[.slice (some ⟨gg, 0, none⟩) (cnt + m) cap] ∧
      Gr (rowE f) 29 (X3.setCell ⟨EP, 0, none⟩ (.slice (some ⟨gg, 0, none⟩) (cnt + m) cap)) w.heap.size (.slice (some ⟨gg, 0, none⟩) (cnt + m) cap) (cnt + m) (cnt + m) (vs ++ news) ∧ gg ≠ EP ∧ (v.ownBlock = some gg ∨ W.heap.size ≤ gg) ∧ gg < (X3.setCell ⟨EP, 0, none⟩ (.slice (some ⟨gg, 0, none⟩) (cnt + m) cap)).heap.size := by
  have h1 : KX W.heap.size E2 W Y1 := hk.trans (KX.bel b1 hk.size)
  have h3 : KX W.heap.size E2 W X3 := h1.trans (KX.grown' g3 h1.size hown)
  have hB3 : Bk X3 EP 65 #[v] := (hB.below b1 hB.lt).only g3 fun e => hv e.symm
  have hb3 : Below w.heap.size w X3 := (hb.trans (b1.mono hb.size)).grown g3 (Nat.le_trans hb.size b1.size) (fun r e => (hR.own.lt r e).1)
  have hne : gg ≠ EP := by
    rcases a3 with a3 | a3
    · intro e
      exact hv (by rw [a3, e])
    · have h5 := hB.lt
      have h6 := b1.size
      omega
  have hG : Gr (rowE f) 29 X3 w.heap.size (.slice (some ⟨gg, 0, none⟩) (cnt + m) cap) (cnt + m) (cnt + m) (vs ++ news) := by
    refine (hR.below (rowE_fp _) b1).push (rowE_fp _) o3 g3 ?_ hn
    rcases a3 with a3 | a3
    · exact .inl a3.symm
    · exact .inr (by simp [Value.ownBlock, a3])
  have hnu : ∀ x : UInt8, v ≠ .int .u8 (x.toNat : Int) := by
    obtain ⟨A, c, rfl⟩ := hR.form
    exact no_u8_slice
  refine ⟨h3, hB3, h3.trans (KX.set hEP _ _ _), hb3.setCell (p := ⟨EP, 0, none⟩) hw _, hB3.put 0 _, hG.boxR hB3 hnu (by simp [Value.ownBlock]; omega), hne, ?_, by simpa using l3⟩
  rcases a3 with a3 | a3
  · exact .inl a3
  · exact .inr (by have := h1.size; omega)
/-- What a round has come to: all that follows. -/
theorem PI.done {w wL W X : World} {sec salt sd : List UInt8} {h n ES EP bn dP k z gg cap c : Nat} {tx : List UInt8} {A : Option Addr} {v : Value} {vs : List Value} (hw : w.heap.size ≤ ES) (h1 : ES < dP) (h2 : dP < EP) (h3 : EP < bn) (h4 : bn < wL.heap.size) (hI : PI w wL sec salt sd h n ES EP bn dP tx k z W) (hzw : wL.heap.size ≤ z)
    (hv : ∀ b, v.ownBlock = some b → b < z ∧ (b = dP ∨ wL.heap.size ≤ b)) (hvc : ∀ b, v.ownBlock = some b → ∃ o : Obj, W.heap[b]? = some o ∧ o.isCells = true)
    (hk : KX W.heap.size (fun b => b = ES ∨ b = EP ∨ v.ownBlock = some b) W X) (hb : Below w.heap.size w X) (hS : Bk X ES 29 #[.slice A 32 c]) (hr : Rd X A 32 c (ofN sec sd h n tx (k + 1))) (ha : ∀ a, A = some a → a.block < ES)
    (hP : Bk X EP 65 #[.slice (some ⟨gg, 0, none⟩) (2 + (k + 1) * (h + 1)) cap]) (hG : Gr (rowE (partR sec salt sd h n tx)) 29 X w.heap.size (.slice (some ⟨gg, 0, none⟩) (2 + (k + 1) * (h + 1)) cap) (2 + (k + 1) * (h + 1)) (2 + (k + 1) * (h + 1)) vs) (hgg : v.ownBlock = some gg ∨ W.heap.size ≤ gg) (hlt : gg < X.heap.size) :
    KeepsFrom wL.heap.size W X ∧ (∀ (b : Nat) (o : Obj), z ≤ b → W.heap[b]? = some o → o.isCells = true → X.heap[b]? = some o) ∧ Bk X bn 26 #[.int .u64 ((nT h n k : Nat) : Int)] ∧
      ∀ z', X.heap.size ≤ z' → PI w wL sec salt sd h n ES EP bn dP tx (k + 1) z' (X.setCell ⟨bn, 0, none⟩ (.int .u64 ((nT h n (k + 1) : Nat) : Int))) := by
  have hkw := hI.ke.size
  have hbn : Bk X bn 26 #[.int .u64 ((nT h n k : Nat) : Int)] := hk.bk hI.box hI.box.lt (by
    rintro (e | e | e)
    · omega
    · omega
    · have := (hv _ e).2; omega)
  have hgw : gg = dP ∨ wL.heap.size ≤ gg := by
    rcases hgg with e | e
    · exact (hv _ e).2
    · exact .inr (by omega)
  refine ⟨⟨hk.size, fun b o hb' ho hoc => (hk.same b (Array.getElem?_eq_some_iff.1 ho).1 ?_).trans ho⟩, fun b o hb' ho hoc => (hk.same b (Array.getElem?_eq_some_iff.1 ho).1 ?_).trans ho, hbn, fun z' hz' => ⟨?_, ?_, hbn.put 0 _, ⟨A, c, hS.far (by show ES ≠ bn; omega) _, rd_box hr hbn no_u8_u64 0 _, ha⟩, .slice (some ⟨gg, 0, none⟩) (2 + (k + 1) * (h + 1)) cap, vs, hP.far (by show EP ≠ bn; omega) _, hG.boxR hbn no_u8_u64 (by simp [Value.ownBlock]; omega), fun b e => ?_⟩⟩
  · rintro (e | e | e)
    · omega
    · omega
    · obtain ⟨o', q1, q2⟩ := hvc _ e
      rw [ho] at q1
      cases q1
      rw [hoc] at q2
      cases q2
  · rintro (e | e | e)
    · omega
    · omega
    · have := (hv _ e).1; omega
  · refine (hI.ke.trans (hk.mono hkw fun b hb' e => ?_)).trans (KX.set (.inr (.inr (.inl rfl))) _ _ _)
    rcases e with e | e | e
    · exact .inl e
    · exact .inr (.inl e)
    · have := (hv _ e).2
      exact .inr (.inr (.inr (by omega)))
  · exact hb.setCell (p := ⟨bn, 0, none⟩) (by show w.heap.size ≤ bn; omega) _
  · simp [Value.ownBlock] at e
    subst e
    exact ⟨by omega, hgw⟩
end Go.Proofs.YtkpfppiedadmbaaDoor.S16
