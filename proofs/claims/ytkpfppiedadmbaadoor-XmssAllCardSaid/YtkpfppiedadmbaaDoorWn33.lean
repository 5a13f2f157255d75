/-
  Texts put together: XmT. No statement is proved here.
-/
import Derived.Test.YtkpfppiedadmbaaDoorWn30
import Derived.Test.YtkpfppiedadmbaaDoorWn13

/-
  The walk of layer 16's fifth statement. No statement is proved here. (Written by genxmt.py.)
-/
namespace Go.Proofs.YtkpfppiedadmbaaDoor.S16
set_option linter.unusedSimpArgs false
set_option linter.unusedVariables false
set_option maxRecDepth 4096
open Go.RowKit S15

theorem rsame16 (A A' : Option Addr) (n c c' : Nat) (xs : List UInt8) (X : World) (h : Rd X A n c xs) (h' : Rd X A' n c' xs) : Calls Tryd.prog 21 #[.slice A n c, .slice A' n c'] X (GivesB true X) := rsame_true A A' n c n c' xs xs X h h' rfl
set_option maxHeartbeats 16000000 in
theorem xmssRoots_walk (M : XC) (w : World) (hk : M.ok w) (As : Option Addr) (ns cs : Nat) (sec : List UInt8) (hs : Rd w As ns cs sec) (Al : Option Addr) (nl cl : Nat) (salt : List UInt8) (hl : Rd w Al nl cl salt) (Ae : Option Addr) (ne ce : Nat) (sd : List UInt8) (he : Rd w Ae ne ce sd) (ly tr : Nat) (hly : ly < 4294967296) (htr : tr < 18446744073709551616) :
    Calls Tryd.prog 5 #[.agg (mkA As ns cs Al nl cl Ae ne ce), .int .u32 (ly : Int), .int .u64 (tr : Int)] w (GivesB true w) := by
  have HK := Lib.hid hk
  obtain ⟨g, hg⟩ : ∃ g, w.heap.size = g := ⟨_, rfl⟩
  obtain ⟨w0, hw0⟩ : ∃ w0, w.alloc (.cells (mkA As ns cs Al nl cl Ae ne ce) 31) = w0 := ⟨_, rfl⟩
  have M0 := Lib.hid (show Bk w0 g 31 (mkA As ns cs Al nl cl Ae ne ce) by rw [← hw0, ← hg]; exact Bk.new _ _ _)
  have B0 := Lib.hid (show Below w.heap.size w w0 by rw [← hw0]; exact (Below.refl _ _).alloc (Nat.le_refl _) _)
  have CN := Lib.hid (show ∀ X, Calls Tryd.prog 15 #[.agg #[.slice As ns cs, .slice Al nl cl, .slice Ae ne ce]] X (GivesB (mayN ns nl ne) X) from fun X => rmay_any15 As ns cs Al nl cl Ae ne ce X)
  have CP := Lib.hid (show ∀ X, Below w.heap.size w X → Calls Tryd.prog 16 #[.agg #[.int .i64 2, .int .i64 1], .agg #[.slice As ns cs, .slice Al nl cl, .slice Ae ne ce]] X (GivesR X (pubX 2 1 sec salt sd)) from fun X hX => M.pub 2 1 As ns cs sec Al nl cl salt Ae ne ce sd X (M.bel hk hX) (hs.below hX) (hl.below hX) (he.below hX))
  have CT := Lib.hid (show ∀ X, Below w.heap.size w X → Calls Tryd.prog 20 #[.agg #[.int .i64 2, .int .i64 1], .agg #[.slice As ns cs, .slice Al nl cl, .slice Ae ne ce], .int .u32 1, .int .u64 0] X (GivesR X (rootX 2 1 sec salt sd 1 0)) from fun X hX => M.root 2 1 As ns cs sec Al nl cl salt Ae ne ce sd 1 0 X (M.bel hk hX) (hs.below hX) (hl.below hX) (he.below hX) (by omega) (by omega))
  have CA := Lib.hid (show ∀ X, Below w.heap.size w X → Calls Tryd.prog 20 #[.agg #[.int .i64 2, .int .i64 1], .agg #[.slice As ns cs, .slice Al nl cl, .slice Ae ne ce], .int .u32 (ly : Int), .int .u64 (tr : Int)] X (GivesR X (rootX 2 1 sec salt sd ly tr)) from fun X hX => M.root 2 1 As ns cs sec Al nl cl salt Ae ne ce sd ly tr X (M.bel hk hX) (hs.below hX) (hl.below hX) (he.below hX) hly htr)
  have HE := Lib.hid he
  by_cases c1 : mayN ns nl ne = true
  case neg =>
    have c1 : mayN ns nl ne = false := by simpa using c1
    have hmd : ¬ madeX 2 1 sec.length salt.length sd.length = true := by rw [hs.len, hl.len, he.len, madeX, c1]; simp
    rw [c1] at CN
    rw [show pubX 2 1 sec salt sd = [] from by rw [pubX, if_neg hmd]] at CP
    rw [show rootX 2 1 sec salt sd 1 0 = [] from by rw [rootX, if_neg fun c => hmd c.1]] at CT
    rw [show rootX 2 1 sec salt sd ly tr = [] from by rw [rootX, if_neg fun c => hmd c.1]] at CA
    clear hk hs hl he hly htr hmd c1
    by_cases b1 : 100 < ns
    · have t1 : (100 : Int) < (ns : Int) := by omega
      clear b1
      go_enter Tryd.func5, Tryd.ntmps5
      go_upto_region 1 with (fail)
      clear hw0 hg
      go_wp2_with (go_at_call 7; ((with_reducible refine (awake16 M _ (M.bel HK.out B0.out)).mono ?_); rintro e w1 ⟨rfl, b1⟩; have B1 := Lib.hid (B0.out.trans (b1.mono B0.out.size)); have M1 := Lib.hid (M0.out.below b1 M0.out.lt); have k0 := M1.out.cell 0; have k1 := M1.out.cell 1; have k2 := M1.out.cell 2; simp only [List.getElem?_toArray, List.getElem?_cons_zero, List.getElem?_cons_succ] at k0 k1 k2; clear b1))
      go_ret
      exact ⟨rfl, B1.out⟩
    by_cases b2 : 100 < nl
    · have t1 : ¬ (100 : Int) < (ns : Int) := by omega
      have t2 : (100 : Int) < (nl : Int) := by omega
      clear b1 b2
      go_enter Tryd.func5, Tryd.ntmps5
      go_upto_region 1 with (fail)
      clear hw0 hg
      go_wp2_with (go_at_call 7; ((with_reducible refine (awake16 M _ (M.bel HK.out B0.out)).mono ?_); rintro e w1 ⟨rfl, b1⟩; have B1 := Lib.hid (B0.out.trans (b1.mono B0.out.size)); have M1 := Lib.hid (M0.out.below b1 M0.out.lt); have k0 := M1.out.cell 0; have k1 := M1.out.cell 1; have k2 := M1.out.cell 2; simp only [List.getElem?_toArray, List.getElem?_cons_zero, List.getElem?_cons_succ] at k0 k1 k2; clear b1))
      go_ret
      exact ⟨rfl, B1.out⟩
    by_cases b3 : 100 < ne
    · have t1 : ¬ (100 : Int) < (ns : Int) := by omega
      have t2 : ¬ (100 : Int) < (nl : Int) := by omega
      have t3 : (100 : Int) < (ne : Int) := by omega
      clear b1 b2 b3
      go_enter Tryd.func5, Tryd.ntmps5
      go_upto_region 1 with (fail)
      clear hw0 hg
      go_wp2_with (go_at_call 7; ((with_reducible refine (awake16 M _ (M.bel HK.out B0.out)).mono ?_); rintro e w1 ⟨rfl, b1⟩; have B1 := Lib.hid (B0.out.trans (b1.mono B0.out.size)); have M1 := Lib.hid (M0.out.below b1 M0.out.lt); have k0 := M1.out.cell 0; have k1 := M1.out.cell 1; have k2 := M1.out.cell 2; simp only [List.getElem?_toArray, List.getElem?_cons_zero, List.getElem?_cons_succ] at k0 k1 k2; clear b1))
      go_ret
      exact ⟨rfl, B1.out⟩
    have t1 : ¬ (100 : Int) < (ns : Int) := by omega
    have t2 : ¬ (100 : Int) < (nl : Int) := by omega
    have t3 : ¬ (100 : Int) < (ne : Int) := by omega
    clear b1 b2 b3
    go_enter Tryd.func5, Tryd.ntmps5
    go_upto_region 1 with (fail)
    clear hw0 hg
    go_upto_region 6 with (go_at_call 7; ((with_reducible refine (awake16 M _ (M.bel HK.out B0.out)).mono ?_); rintro e w1 ⟨rfl, b1⟩; have B1 := Lib.hid (B0.out.trans (b1.mono B0.out.size)); have M1 := Lib.hid (M0.out.below b1 M0.out.lt); have k0 := M1.out.cell 0; have k1 := M1.out.cell 1; have k2 := M1.out.cell 2; simp only [List.getElem?_toArray, List.getElem?_cons_zero, List.getElem?_cons_succ] at k0 k1 k2; clear b1))
    clear k0 k1 k2
    obtain ⟨d, hd⟩ : ∃ d, w1.heap.size = d := ⟨_, rfl⟩
    obtain ⟨w2, hw2⟩ : ∃ w2, w1.alloc (.cells (shA 2 1) 23) = w2 := ⟨_, rfl⟩
    have X2 := Lib.hid (show Bk w2 d 23 (shA 2 1) by rw [← hw2]; exact Bk.newAt _ _ _ _ hd)
    have M2 := Lib.hid (show Bk w2 g 31 (mkA As ns cs Al nl cl Ae ne ce) by rw [← hw2]; exact M1.out.alloc _)
    have B2 := Lib.hid (show Below w.heap.size w w2 by rw [← hw2]; exact B1.out.alloc B1.out.size _)
    first
      | rw [hw2, hd]
      | rw [hd]
      | skip
    clear hw2 hd
    have KS := Lib.hid (show ∀ X, Below w2.heap.size w2 X → X.cell? ⟨d, 0, none⟩ = some (.int .i64 2) ∧ X.cell? ⟨d, 1, none⟩ = some (.int .i64 1) ∧ X.cell? ⟨g, 0, none⟩ = some (.slice As ns cs) ∧ X.cell? ⟨g, 1, none⟩ = some (.slice Al nl cl) ∧ X.cell? ⟨g, 2, none⟩ = some (.slice Ae ne ce) from fun X hX => ⟨(X2.out.below hX X2.out.lt).cell 0, (X2.out.below hX X2.out.lt).cell 1, (M2.out.below hX M2.out.lt).cell 0, (M2.out.below hX M2.out.lt).cell 1, (M2.out.below hX M2.out.lt).cell 2⟩)
    have NX := Lib.hid (show ∀ X Y, Below w2.heap.size w2 X → Below X.heap.size X Y → Below w2.heap.size w2 Y from fun X Y h h' => h.trans (h'.mono h.size))
    have BW := Lib.hid (show ∀ X, Below w2.heap.size w2 X → Below w.heap.size w X from fun X hX => B2.out.trans (hX.mono B2.out.size))
    have BR := Lib.hid (Below.refl w2.heap.size w2)
    obtain ⟨k0, k1, k2, k3, k4⟩ := KS.out _ BR.out
    go_upto_region 7 with (go_at_call 16; ((with_reducible refine (CP.out _ (BW.out _ BR.out)).mono ?_); intro e w3 h3; obtain ⟨A3, c3, rfl, r3, b3⟩ := givesN h3 rfl; have P3 := Lib.hid r3; have B3 := Lib.hid b3; clear r3 b3 h3))
    clear k0 k1 k2 k3 k4
    obtain ⟨k0, k1, k2, k3, k4⟩ := KS.out _ B3.out
    go_upto_region 8 with (go_at_call 20; ((with_reducible refine (CT.out _ (BW.out _ B3.out)).mono ?_); intro e w4 h4; obtain ⟨A4, c4, rfl, r4, b4⟩ := givesN h4 rfl; have T4 := Lib.hid r4; have B4 := Lib.hid (NX.out _ _ B3.out b4); have P4 := Lib.hid (P3.out.below b4); clear r4 b4 h4))
    clear k0 k1 k2 k3 k4
    obtain ⟨k0, k1, k2, k3, k4⟩ := KS.out _ B4.out
    go_upto_region 9 with (go_at_call 20; ((with_reducible refine (CA.out _ (BW.out _ B4.out)).mono ?_); intro e w5 h5; obtain ⟨A5, c5, rfl, r5, b5⟩ := givesN h5 rfl; have B5 := Lib.hid (NX.out _ _ B4.out b5); have P5 := Lib.hid (P4.out.below b5); have T5 := Lib.hid (T4.out.below b5); clear r5 b5 h5))
    clear k0 k1 k2 k3 k4
    obtain ⟨k0, k1, k2, k3, k4⟩ := KS.out _ B5.out
    go_wp2_with (go_at_call 15; ((with_reducible refine (CN.out _).mono ?_); rintro e w6 ⟨rfl, b6⟩; have B6 := Lib.hid (NX.out _ _ B5.out b6); have P6 := Lib.hid (P5.out.below b6); have T6 := Lib.hid (T5.out.below b6); clear b6))
    go_ret
    exact ⟨rfl, BW.out _ B6.out⟩
  obtain ⟨rfl, rfl, rfl⟩ := mayN_iff.1 c1
  rw [c1] at CN
  have hmd : madeX 2 1 sec.length salt.length sd.length = true := by rw [hs.len, hl.len, he.len]; rfl
  have l1 : (pubN sec sd 2 1).length = 64 := pub_len _ _ _ _ he.len
  have p1 : (pubN sec sd 2 1).take 32 = sumT sec sd 1 0 1 0 := List.take_left' (sum_32 ..)
  have p2 : (pubN sec sd 2 1).drop 32 = sd := List.drop_left' (sum_32 ..)
  rw [show pubX 2 1 sec salt sd = pubN sec sd 2 1 from by rw [pubX, if_pos hmd]; rfl] at CP
  rw [show rootX 2 1 sec salt sd 1 0 = sumT sec sd 1 0 1 0 from by rw [rootX, if_pos ⟨hmd, by omega, by show 0 < 2 ^ (1 * (2 - 1 - 1)); omega⟩]; rfl] at CT
  have l2 : (sumT sec sd 1 0 1 0).length = 32 := sum_32 ..
  generalize pubN sec sd 2 1 = PB at *
  generalize sumT sec sd 1 0 1 0 = TP at *
  have L1 := Lib.hid l1
  have L2 := Lib.hid l2
  have P1 := Lib.hid p1
  have P2 := Lib.hid p2
  clear l1 l2 p1 p2 c1
  have hA : ∀ b : Bool, (((ly : Int) < 2 ∧ tr < 2 ^ (1 * (2 - 1 - ly))) ↔ b = true) → ∃ zz : List UInt8, rootX 2 1 sec salt sd ly tr = zz ∧ zz.length = if b then 32 else 0 := by
    intro b hb
    cases b with
    | true =>
      have h9 := hb.2 rfl
      refine ⟨_, rfl, ?_⟩
      rw [rootX, if_pos ⟨hmd, h9.1, h9.2⟩]
      exact sum_32 ..
    | false =>
      refine ⟨_, rfl, ?_⟩
      rw [rootX, if_neg fun c => by have := hb.1 ⟨c.2.1, c.2.2⟩; cases this]
      rfl
  clear hk hs hl he hmd
  by_cases d1 : ly = 0
  · have f1 : ((ly : Int) == 0) = true := by simp; omega
    by_cases d2 : tr < 2
    · obtain ⟨zz, hzz, hlz⟩ := hA true ⟨fun _ => rfl, fun _ => ⟨by omega, by rw [d1]; show tr < 2 ^ 1; omega⟩⟩
      rw [hzz] at CA
      have LZ := Lib.hid (show zz.length = 32 from hlz)
      have f2 : (tr : Int) < 2 := by omega
      clear hzz hlz hA d1 d2 hly htr
      go_enter Tryd.func5, Tryd.ntmps5
      go_upto_region 1 with (fail)
      clear hw0 hg
      go_upto_region 6 with (go_at_call 7; ((with_reducible refine (awake16 M _ (M.bel HK.out B0.out)).mono ?_); rintro e w1 ⟨rfl, b1⟩; have B1 := Lib.hid (B0.out.trans (b1.mono B0.out.size)); have M1 := Lib.hid (M0.out.below b1 M0.out.lt); have k0 := M1.out.cell 0; have k1 := M1.out.cell 1; have k2 := M1.out.cell 2; simp only [List.getElem?_toArray, List.getElem?_cons_zero, List.getElem?_cons_succ] at k0 k1 k2; clear b1))
      clear k0 k1 k2
      obtain ⟨d, hd⟩ : ∃ d, w1.heap.size = d := ⟨_, rfl⟩
      obtain ⟨w2, hw2⟩ : ∃ w2, w1.alloc (.cells (shA 2 1) 23) = w2 := ⟨_, rfl⟩
      have X2 := Lib.hid (show Bk w2 d 23 (shA 2 1) by rw [← hw2]; exact Bk.newAt _ _ _ _ hd)
      have M2 := Lib.hid (show Bk w2 g 31 (mkA As 32 cs Al 32 cl Ae 32 ce) by rw [← hw2]; exact M1.out.alloc _)
      have B2 := Lib.hid (show Below w.heap.size w w2 by rw [← hw2]; exact B1.out.alloc B1.out.size _)
      first
        | rw [hw2, hd]
        | rw [hd]
        | skip
      clear hw2 hd
      have KS := Lib.hid (show ∀ X, Below w2.heap.size w2 X → X.cell? ⟨d, 0, none⟩ = some (.int .i64 2) ∧ X.cell? ⟨d, 1, none⟩ = some (.int .i64 1) ∧ X.cell? ⟨g, 0, none⟩ = some (.slice As 32 cs) ∧ X.cell? ⟨g, 1, none⟩ = some (.slice Al 32 cl) ∧ X.cell? ⟨g, 2, none⟩ = some (.slice Ae 32 ce) from fun X hX => ⟨(X2.out.below hX X2.out.lt).cell 0, (X2.out.below hX X2.out.lt).cell 1, (M2.out.below hX M2.out.lt).cell 0, (M2.out.below hX M2.out.lt).cell 1, (M2.out.below hX M2.out.lt).cell 2⟩)
      have NX := Lib.hid (show ∀ X Y, Below w2.heap.size w2 X → Below X.heap.size X Y → Below w2.heap.size w2 Y from fun X Y h h' => h.trans (h'.mono h.size))
      have BW := Lib.hid (show ∀ X, Below w2.heap.size w2 X → Below w.heap.size w X from fun X hX => B2.out.trans (hX.mono B2.out.size))
      have BR := Lib.hid (Below.refl w2.heap.size w2)
      obtain ⟨k0, k1, k2, k3, k4⟩ := KS.out _ BR.out
      go_upto_region 7 with (go_at_call 16; ((with_reducible refine (CP.out _ (BW.out _ BR.out)).mono ?_); intro e w3 h3; obtain ⟨A3, c3, rfl, r3, b3⟩ := givesN h3 L1.out; have P3 := Lib.hid r3; have B3 := Lib.hid b3; clear r3 b3 h3))
      clear k0 k1 k2 k3 k4
      obtain ⟨k0, k1, k2, k3, k4⟩ := KS.out _ B3.out
      go_upto_region 8 with (go_at_call 20; ((with_reducible refine (CT.out _ (BW.out _ B3.out)).mono ?_); intro e w4 h4; obtain ⟨A4, c4, rfl, r4, b4⟩ := givesN h4 L2.out; have T4 := Lib.hid r4; have B4 := Lib.hid (NX.out _ _ B3.out b4); have P4 := Lib.hid (P3.out.below b4); clear r4 b4 h4))
      clear k0 k1 k2 k3 k4
      obtain ⟨k0, k1, k2, k3, k4⟩ := KS.out _ B4.out
      go_upto_region 9 with (go_at_call 20; ((with_reducible refine (CA.out _ (BW.out _ B4.out)).mono ?_); intro e w5 h5; obtain ⟨A5, c5, rfl, r5, b5⟩ := givesN h5 LZ.out; have B5 := Lib.hid (NX.out _ _ B4.out b5); have P5 := Lib.hid (P4.out.below b5); have T5 := Lib.hid (T4.out.below b5); clear r5 b5 h5))
      clear k0 k1 k2 k3 k4
      obtain ⟨k0, k1, k2, k3, k4⟩ := KS.out _ B5.out
      go_upto_region 12 with (go_at_call 15; ((with_reducible refine (CN.out _).mono ?_); rintro e w6 ⟨rfl, b6⟩; have B6 := Lib.hid (NX.out _ _ B5.out b6); have P6 := Lib.hid (P5.out.below b6); have T6 := Lib.hid (T5.out.below b6); clear b6))
      clear k0 k1 k2 k3 k4
      have hcp6 := P6.out.cap
      have hmx6 := P6.out.max
      obtain ⟨A6, hA6⟩ : ∃ A6, A6 = if c3 = 32 then A3 else A3.map (·.add 32) := ⟨_, rfl⟩
      have C1 : ∀ W, (Instr.slice 29 (.slice A3 64 c3) none (some (.int .i64 32)) none).run Tryd.prog W = .ok (.slice A3 32 c3) W := fun W => run_cutSlH (m := 32) rfl (by omega) W
      have C2 : ∀ W, (Instr.sliceAt 29 (.slice A3 64 c3) none (some (.int .i64 32)) none).run Tryd.prog W = .ok (.slice A3 32 c3) W := fun W => run_cutSlHAt (m := 32) rfl (by omega) W
      have D1 : ∀ W, (Instr.slice 29 (.slice A3 64 c3) (some (.int .i64 32)) none none).run Tryd.prog W = .ok (.slice A6 32 (c3 - 32)) W := fun W => by rw [hA6]; exact run_cutSl (k := 32) rfl (by omega) W
      have D2 : ∀ W, (Instr.sliceAt 29 (.slice A3 64 c3) (some (.int .i64 32)) none none).run Tryd.prog W = .ok (.slice A6 32 (c3 - 32)) W := fun W => by rw [hA6]; exact run_cutSlAt (k := 32) rfl (by omega) W
      have CS1 := Lib.hid (show ∀ X, Rd X A3 64 c3 PB → Rd X A4 32 c4 TP → Calls Tryd.prog 21 #[.slice A3 32 c3, .slice A4 32 c4] X (GivesB true X) from fun X h h' => rsame16 A3 A4 32 c3 c4 TP X (by rw [← P1.out]; exact h.take (by omega)) h')
      have CS2 := Lib.hid (show ∀ X, Below w2.heap.size w2 X → Rd X A3 64 c3 PB → Calls Tryd.prog 21 #[.slice A6 32 (c3 - 32), .slice Ae 32 ce] X (GivesB true X) from fun X hX h => rsame16 A6 Ae 32 (c3 - 32) ce sd X (by rw [← P2.out, hA6]; exact h.cut (by omega)) (HE.out.below (BW.out _ hX)))
      clear hcp6 hmx6
      have KT := Lib.hid (show ∀ X, (Below w2.heap.size w2 X ∧ Rd X A3 64 c3 PB ∧ Rd X A4 32 c4 TP) → X.cell? ⟨g, 0, none⟩ = some (.slice As 32 cs) ∧ X.cell? ⟨g, 1, none⟩ = some (.slice Al 32 cl) ∧ X.cell? ⟨g, 2, none⟩ = some (.slice Ae 32 ce) from fun X hX => (KS.out X hX.1).2.2)
      clear hA6
      refine wp_region_steady (fun X => Below w2.heap.size w2 X ∧ Rd X A3 64 c3 PB ∧ Rd X A4 32 c4 TP) (by kernel_rfl) (by kernel_rfl) ⟨B6.out.drew, P6.out.drew, T6.out.drew⟩ ?_
      repeat (first | (refine seq_pure (v := ?_) (by rfl) ?_ ?_; rotate_left; (· (intro w' hS; obtain ⟨c0, c1, c2⟩ := KT.out w' hS; clear hS; go_simp; try with_reducible rfl)); simp only [Act.put, List.setIfInBounds_toArray, List.set_cons_zero, List.set_cons_succ]) | (refine seq_skip (by rfl) ?_; simp only [Act.put, List.setIfInBounds_toArray, List.set_cons_zero, List.set_cons_succ]) | fail)
      refine seq_call (f := 21) (args := #[.slice A3 32 c3, .slice A4 32 c4]) (v := .bool true) (by rfl) ?_ ?_ ?_
      · intro w' hS; obtain ⟨c0, c1, c2⟩ := KT.out w' hS; clear hS; go_simp
      · intro w' hS; exact (CS1.out _ hS.2.1 hS.2.2).mono fun e w'' ⟨h1, h2⟩ => ⟨h1, NX.out _ _ hS.1 h2, hS.2.1.below h2, hS.2.2.below h2⟩
      simp only [Act.put, List.setIfInBounds_toArray, List.set_cons_zero, List.set_cons_succ]
      repeat (first | (refine seq_pure (v := ?_) (by rfl) ?_ ?_; rotate_left; (· (intro w' hS; obtain ⟨c0, c1, c2⟩ := KT.out w' hS; clear hS; go_simp; try with_reducible rfl)); simp only [Act.put, List.setIfInBounds_toArray, List.set_cons_zero, List.set_cons_succ]) | (refine seq_skip (by rfl) ?_; simp only [Act.put, List.setIfInBounds_toArray, List.set_cons_zero, List.set_cons_succ]) | fail)
      refine seq_call (f := 21) (args := #[.slice A6 32 (c3 - 32), .slice Ae 32 ce]) (v := .bool true) (by rfl) ?_ ?_ ?_
      · intro w' hS; obtain ⟨c0, c1, c2⟩ := KT.out w' hS; clear hS; go_simp
      · intro w' hS; exact (CS2.out _ hS.1 hS.2.1).mono fun e w'' ⟨h1, h2⟩ => ⟨h1, NX.out _ _ hS.1 h2, hS.2.1.below h2, hS.2.2.below h2⟩
      simp only [Act.put, List.setIfInBounds_toArray, List.set_cons_zero, List.set_cons_succ]
      repeat (first | (refine seq_pure (v := ?_) (by rfl) ?_ ?_; rotate_left; (· (intro w' hS; obtain ⟨c0, c1, c2⟩ := KT.out w' hS; clear hS; go_simp; try with_reducible rfl)); simp only [Act.put, List.setIfInBounds_toArray, List.set_cons_zero, List.set_cons_succ]) | (refine seq_skip (by rfl) ?_; simp only [Act.put, List.setIfInBounds_toArray, List.set_cons_zero, List.set_cons_succ]) | fail)
      refine seq_nil ?_
      rintro w11 ⟨s11, _, _⟩
      have B11 := Lib.hid s11
      clear s11
      go_wp2
      go_ret
      exact ⟨rfl, BW.out _ B11.out⟩
    · obtain ⟨zz, hzz, hlz⟩ := hA false ⟨fun h => by have h9 := h.2; rw [d1] at h9; have h8 : tr < 2 ^ 1 := h9; omega, fun h => by cases h⟩
      rw [hzz] at CA
      have LZ := Lib.hid (show zz.length = 0 from hlz)
      have f2 : decide ((tr : Int) < 2) = false := by simp; omega
      have f3 : ((ly : Int) == 1) = false := by simp; omega
      clear hzz hlz hA d1 d2 hly htr
      go_enter Tryd.func5, Tryd.ntmps5
      go_upto_region 1 with (fail)
      clear hw0 hg
      go_upto_region 6 with (go_at_call 7; ((with_reducible refine (awake16 M _ (M.bel HK.out B0.out)).mono ?_); rintro e w1 ⟨rfl, b1⟩; have B1 := Lib.hid (B0.out.trans (b1.mono B0.out.size)); have M1 := Lib.hid (M0.out.below b1 M0.out.lt); have k0 := M1.out.cell 0; have k1 := M1.out.cell 1; have k2 := M1.out.cell 2; simp only [List.getElem?_toArray, List.getElem?_cons_zero, List.getElem?_cons_succ] at k0 k1 k2; clear b1))
      clear k0 k1 k2
      obtain ⟨d, hd⟩ : ∃ d, w1.heap.size = d := ⟨_, rfl⟩
      obtain ⟨w2, hw2⟩ : ∃ w2, w1.alloc (.cells (shA 2 1) 23) = w2 := ⟨_, rfl⟩
      have X2 := Lib.hid (show Bk w2 d 23 (shA 2 1) by rw [← hw2]; exact Bk.newAt _ _ _ _ hd)
      have M2 := Lib.hid (show Bk w2 g 31 (mkA As 32 cs Al 32 cl Ae 32 ce) by rw [← hw2]; exact M1.out.alloc _)
      have B2 := Lib.hid (show Below w.heap.size w w2 by rw [← hw2]; exact B1.out.alloc B1.out.size _)
      first
        | rw [hw2, hd]
        | rw [hd]
        | skip
      clear hw2 hd
      have KS := Lib.hid (show ∀ X, Below w2.heap.size w2 X → X.cell? ⟨d, 0, none⟩ = some (.int .i64 2) ∧ X.cell? ⟨d, 1, none⟩ = some (.int .i64 1) ∧ X.cell? ⟨g, 0, none⟩ = some (.slice As 32 cs) ∧ X.cell? ⟨g, 1, none⟩ = some (.slice Al 32 cl) ∧ X.cell? ⟨g, 2, none⟩ = some (.slice Ae 32 ce) from fun X hX => ⟨(X2.out.below hX X2.out.lt).cell 0, (X2.out.below hX X2.out.lt).cell 1, (M2.out.below hX M2.out.lt).cell 0, (M2.out.below hX M2.out.lt).cell 1, (M2.out.below hX M2.out.lt).cell 2⟩)
      have NX := Lib.hid (show ∀ X Y, Below w2.heap.size w2 X → Below X.heap.size X Y → Below w2.heap.size w2 Y from fun X Y h h' => h.trans (h'.mono h.size))
      have BW := Lib.hid (show ∀ X, Below w2.heap.size w2 X → Below w.heap.size w X from fun X hX => B2.out.trans (hX.mono B2.out.size))
      have BR := Lib.hid (Below.refl w2.heap.size w2)
      obtain ⟨k0, k1, k2, k3, k4⟩ := KS.out _ BR.out
      go_upto_region 7 with (go_at_call 16; ((with_reducible refine (CP.out _ (BW.out _ BR.out)).mono ?_); intro e w3 h3; obtain ⟨A3, c3, rfl, r3, b3⟩ := givesN h3 L1.out; have P3 := Lib.hid r3; have B3 := Lib.hid b3; clear r3 b3 h3))
      clear k0 k1 k2 k3 k4
      obtain ⟨k0, k1, k2, k3, k4⟩ := KS.out _ B3.out
      go_upto_region 8 with (go_at_call 20; ((with_reducible refine (CT.out _ (BW.out _ B3.out)).mono ?_); intro e w4 h4; obtain ⟨A4, c4, rfl, r4, b4⟩ := givesN h4 L2.out; have T4 := Lib.hid r4; have B4 := Lib.hid (NX.out _ _ B3.out b4); have P4 := Lib.hid (P3.out.below b4); clear r4 b4 h4))
      clear k0 k1 k2 k3 k4
      obtain ⟨k0, k1, k2, k3, k4⟩ := KS.out _ B4.out
      go_upto_region 9 with (go_at_call 20; ((with_reducible refine (CA.out _ (BW.out _ B4.out)).mono ?_); intro e w5 h5; obtain ⟨A5, c5, rfl, r5, b5⟩ := givesN h5 LZ.out; have B5 := Lib.hid (NX.out _ _ B4.out b5); have P5 := Lib.hid (P4.out.below b5); have T5 := Lib.hid (T4.out.below b5); clear r5 b5 h5))
      clear k0 k1 k2 k3 k4
      obtain ⟨k0, k1, k2, k3, k4⟩ := KS.out _ B5.out
      go_upto_region 12 with (go_at_call 15; ((with_reducible refine (CN.out _).mono ?_); rintro e w6 ⟨rfl, b6⟩; have B6 := Lib.hid (NX.out _ _ B5.out b6); have P6 := Lib.hid (P5.out.below b6); have T6 := Lib.hid (T5.out.below b6); clear b6))
      clear k0 k1 k2 k3 k4
      have hcp6 := P6.out.cap
      have hmx6 := P6.out.max
      obtain ⟨A6, hA6⟩ : ∃ A6, A6 = if c3 = 32 then A3 else A3.map (·.add 32) := ⟨_, rfl⟩
      have C1 : ∀ W, (Instr.slice 29 (.slice A3 64 c3) none (some (.int .i64 32)) none).run Tryd.prog W = .ok (.slice A3 32 c3) W := fun W => run_cutSlH (m := 32) rfl (by omega) W
      have C2 : ∀ W, (Instr.sliceAt 29 (.slice A3 64 c3) none (some (.int .i64 32)) none).run Tryd.prog W = .ok (.slice A3 32 c3) W := fun W => run_cutSlHAt (m := 32) rfl (by omega) W
      have D1 : ∀ W, (Instr.slice 29 (.slice A3 64 c3) (some (.int .i64 32)) none none).run Tryd.prog W = .ok (.slice A6 32 (c3 - 32)) W := fun W => by rw [hA6]; exact run_cutSl (k := 32) rfl (by omega) W
      have D2 : ∀ W, (Instr.sliceAt 29 (.slice A3 64 c3) (some (.int .i64 32)) none none).run Tryd.prog W = .ok (.slice A6 32 (c3 - 32)) W := fun W => by rw [hA6]; exact run_cutSlAt (k := 32) rfl (by omega) W
      have CS1 := Lib.hid (show ∀ X, Rd X A3 64 c3 PB → Rd X A4 32 c4 TP → Calls Tryd.prog 21 #[.slice A3 32 c3, .slice A4 32 c4] X (GivesB true X) from fun X h h' => rsame16 A3 A4 32 c3 c4 TP X (by rw [← P1.out]; exact h.take (by omega)) h')
      have CS2 := Lib.hid (show ∀ X, Below w2.heap.size w2 X → Rd X A3 64 c3 PB → Calls Tryd.prog 21 #[.slice A6 32 (c3 - 32), .slice Ae 32 ce] X (GivesB true X) from fun X hX h => rsame16 A6 Ae 32 (c3 - 32) ce sd X (by rw [← P2.out, hA6]; exact h.cut (by omega)) (HE.out.below (BW.out _ hX)))
      clear hcp6 hmx6
      have KT := Lib.hid (show ∀ X, (Below w2.heap.size w2 X ∧ Rd X A3 64 c3 PB ∧ Rd X A4 32 c4 TP) → X.cell? ⟨g, 0, none⟩ = some (.slice As 32 cs) ∧ X.cell? ⟨g, 1, none⟩ = some (.slice Al 32 cl) ∧ X.cell? ⟨g, 2, none⟩ = some (.slice Ae 32 ce) from fun X hX => (KS.out X hX.1).2.2)
      clear hA6
      refine wp_region_steady (fun X => Below w2.heap.size w2 X ∧ Rd X A3 64 c3 PB ∧ Rd X A4 32 c4 TP) (by kernel_rfl) (by kernel_rfl) ⟨B6.out.drew, P6.out.drew, T6.out.drew⟩ ?_
      repeat (first | (refine seq_pure (v := ?_) (by rfl) ?_ ?_; rotate_left; (· (intro w' hS; obtain ⟨c0, c1, c2⟩ := KT.out w' hS; clear hS; go_simp; try with_reducible rfl)); simp only [Act.put, List.setIfInBounds_toArray, List.set_cons_zero, List.set_cons_succ]) | (refine seq_skip (by rfl) ?_; simp only [Act.put, List.setIfInBounds_toArray, List.set_cons_zero, List.set_cons_succ]) | fail)
      refine seq_call (f := 21) (args := #[.slice A3 32 c3, .slice A4 32 c4]) (v := .bool true) (by rfl) ?_ ?_ ?_
      · intro w' hS; obtain ⟨c0, c1, c2⟩ := KT.out w' hS; clear hS; go_simp
      · intro w' hS; exact (CS1.out _ hS.2.1 hS.2.2).mono fun e w'' ⟨h1, h2⟩ => ⟨h1, NX.out _ _ hS.1 h2, hS.2.1.below h2, hS.2.2.below h2⟩
      simp only [Act.put, List.setIfInBounds_toArray, List.set_cons_zero, List.set_cons_succ]
      repeat (first | (refine seq_pure (v := ?_) (by rfl) ?_ ?_; rotate_left; (· (intro w' hS; obtain ⟨c0, c1, c2⟩ := KT.out w' hS; clear hS; go_simp; try with_reducible rfl)); simp only [Act.put, List.setIfInBounds_toArray, List.set_cons_zero, List.set_cons_succ]) | (refine seq_skip (by rfl) ?_; simp only [Act.put, List.setIfInBounds_toArray, List.set_cons_zero, List.set_cons_succ]) | fail)
      refine seq_call (f := 21) (args := #[.slice A6 32 (c3 - 32), .slice Ae 32 ce]) (v := .bool true) (by rfl) ?_ ?_ ?_
      · intro w' hS; obtain ⟨c0, c1, c2⟩ := KT.out w' hS; clear hS; go_simp
      · intro w' hS; exact (CS2.out _ hS.1 hS.2.1).mono fun e w'' ⟨h1, h2⟩ => ⟨h1, NX.out _ _ hS.1 h2, hS.2.1.below h2, hS.2.2.below h2⟩
      simp only [Act.put, List.setIfInBounds_toArray, List.set_cons_zero, List.set_cons_succ]
      repeat (first | (refine seq_pure (v := ?_) (by rfl) ?_ ?_; rotate_left; (· (intro w' hS; obtain ⟨c0, c1, c2⟩ := KT.out w' hS; clear hS; go_simp; try with_reducible rfl)); simp only [Act.put, List.setIfInBounds_toArray, List.set_cons_zero, List.set_cons_succ]) | (refine seq_skip (by rfl) ?_; simp only [Act.put, List.setIfInBounds_toArray, List.set_cons_zero, List.set_cons_succ]) | fail)
      refine seq_nil ?_
      rintro w11 ⟨s11, _, _⟩
      have B11 := Lib.hid s11
      clear s11
      go_wp2
      go_ret
      exact ⟨rfl, BW.out _ B11.out⟩
  by_cases d3 : ly = 1
  · have f1 : ((ly : Int) == 0) = false := by simp; omega
    have f3 : ((ly : Int) == 1) = true := by simp; omega
    by_cases d2 : tr = 0
    · obtain ⟨zz, hzz, hlz⟩ := hA true ⟨fun _ => rfl, fun _ => ⟨by omega, by rw [d2, d3]; show 0 < 2 ^ 0; omega⟩⟩
      rw [hzz] at CA
      have LZ := Lib.hid (show zz.length = 32 from hlz)
      have f2 : ((tr : Int) == 0) = true := by simp; omega
      clear hzz hlz hA d1 d2 d3 hly htr
      go_enter Tryd.func5, Tryd.ntmps5
      go_upto_region 1 with (fail)
      clear hw0 hg
      go_upto_region 6 with (go_at_call 7; ((with_reducible refine (awake16 M _ (M.bel HK.out B0.out)).mono ?_); rintro e w1 ⟨rfl, b1⟩; have B1 := Lib.hid (B0.out.trans (b1.mono B0.out.size)); have M1 := Lib.hid (M0.out.below b1 M0.out.lt); have k0 := M1.out.cell 0; have k1 := M1.out.cell 1; have k2 := M1.out.cell 2; simp only [List.getElem?_toArray, List.getElem?_cons_zero, List.getElem?_cons_succ] at k0 k1 k2; clear b1))
      clear k0 k1 k2
      obtain ⟨d, hd⟩ : ∃ d, w1.heap.size = d := ⟨_, rfl⟩
      obtain ⟨w2, hw2⟩ : ∃ w2, w1.alloc (.cells (shA 2 1) 23) = w2 := ⟨_, rfl⟩
      have X2 := Lib.hid (show Bk w2 d 23 (shA 2 1) by rw [← hw2]; exact Bk.newAt _ _ _ _ hd)
      have M2 := Lib.hid (show Bk w2 g 31 (mkA As 32 cs Al 32 cl Ae 32 ce) by rw [← hw2]; exact M1.out.alloc _)
      have B2 := Lib.hid (show Below w.heap.size w w2 by rw [← hw2]; exact B1.out.alloc B1.out.size _)
      first
        | rw [hw2, hd]
        | rw [hd]
        | skip
      clear hw2 hd
      have KS := Lib.hid (show ∀ X, Below w2.heap.size w2 X → X.cell? ⟨d, 0, none⟩ = some (.int .i64 2) ∧ X.cell? ⟨d, 1, none⟩ = some (.int .i64 1) ∧ X.cell? ⟨g, 0, none⟩ = some (.slice As 32 cs) ∧ X.cell? ⟨g, 1, none⟩ = some (.slice Al 32 cl) ∧ X.cell? ⟨g, 2, none⟩ = some (.slice Ae 32 ce) from fun X hX => ⟨(X2.out.below hX X2.out.lt).cell 0, (X2.out.below hX X2.out.lt).cell 1, (M2.out.below hX M2.out.lt).cell 0, (M2.out.below hX M2.out.lt).cell 1, (M2.out.below hX M2.out.lt).cell 2⟩)
      have NX := Lib.hid (show ∀ X Y, Below w2.heap.size w2 X → Below X.heap.size X Y → Below w2.heap.size w2 Y from fun X Y h h' => h.trans (h'.mono h.size))
      have BW := Lib.hid (show ∀ X, Below w2.heap.size w2 X → Below w.heap.size w X from fun X hX => B2.out.trans (hX.mono B2.out.size))
      have BR := Lib.hid (Below.refl w2.heap.size w2)
      obtain ⟨k0, k1, k2, k3, k4⟩ := KS.out _ BR.out
      go_upto_region 7 with (go_at_call 16; ((with_reducible refine (CP.out _ (BW.out _ BR.out)).mono ?_); intro e w3 h3; obtain ⟨A3, c3, rfl, r3, b3⟩ := givesN h3 L1.out; have P3 := Lib.hid r3; have B3 := Lib.hid b3; clear r3 b3 h3))
      clear k0 k1 k2 k3 k4
      obtain ⟨k0, k1, k2, k3, k4⟩ := KS.out _ B3.out
      go_upto_region 8 with (go_at_call 20; ((with_reducible refine (CT.out _ (BW.out _ B3.out)).mono ?_); intro e w4 h4; obtain ⟨A4, c4, rfl, r4, b4⟩ := givesN h4 L2.out; have T4 := Lib.hid r4; have B4 := Lib.hid (NX.out _ _ B3.out b4); have P4 := Lib.hid (P3.out.below b4); clear r4 b4 h4))
      clear k0 k1 k2 k3 k4
      obtain ⟨k0, k1, k2, k3, k4⟩ := KS.out _ B4.out
      go_upto_region 9 with (go_at_call 20; ((with_reducible refine (CA.out _ (BW.out _ B4.out)).mono ?_); intro e w5 h5; obtain ⟨A5, c5, rfl, r5, b5⟩ := givesN h5 LZ.out; have B5 := Lib.hid (NX.out _ _ B4.out b5); have P5 := Lib.hid (P4.out.below b5); have T5 := Lib.hid (T4.out.below b5); clear r5 b5 h5))
      clear k0 k1 k2 k3 k4
      obtain ⟨k0, k1, k2, k3, k4⟩ := KS.out _ B5.out
      go_upto_region 12 with (go_at_call 15; ((with_reducible refine (CN.out _).mono ?_); rintro e w6 ⟨rfl, b6⟩; have B6 := Lib.hid (NX.out _ _ B5.out b6); have P6 := Lib.hid (P5.out.below b6); have T6 := Lib.hid (T5.out.below b6); clear b6))
      clear k0 k1 k2 k3 k4
      have hcp6 := P6.out.cap
      have hmx6 := P6.out.max
      obtain ⟨A6, hA6⟩ : ∃ A6, A6 = if c3 = 32 then A3 else A3.map (·.add 32) := ⟨_, rfl⟩
      have C1 : ∀ W, (Instr.slice 29 (.slice A3 64 c3) none (some (.int .i64 32)) none).run Tryd.prog W = .ok (.slice A3 32 c3) W := fun W => run_cutSlH (m := 32) rfl (by omega) W
      have C2 : ∀ W, (Instr.sliceAt 29 (.slice A3 64 c3) none (some (.int .i64 32)) none).run Tryd.prog W = .ok (.slice A3 32 c3) W := fun W => run_cutSlHAt (m := 32) rfl (by omega) W
      have D1 : ∀ W, (Instr.slice 29 (.slice A3 64 c3) (some (.int .i64 32)) none none).run Tryd.prog W = .ok (.slice A6 32 (c3 - 32)) W := fun W => by rw [hA6]; exact run_cutSl (k := 32) rfl (by omega) W
      have D2 : ∀ W, (Instr.sliceAt 29 (.slice A3 64 c3) (some (.int .i64 32)) none none).run Tryd.prog W = .ok (.slice A6 32 (c3 - 32)) W := fun W => by rw [hA6]; exact run_cutSlAt (k := 32) rfl (by omega) W
      have CS1 := Lib.hid (show ∀ X, Rd X A3 64 c3 PB → Rd X A4 32 c4 TP → Calls Tryd.prog 21 #[.slice A3 32 c3, .slice A4 32 c4] X (GivesB true X) from fun X h h' => rsame16 A3 A4 32 c3 c4 TP X (by rw [← P1.out]; exact h.take (by omega)) h')
      have CS2 := Lib.hid (show ∀ X, Below w2.heap.size w2 X → Rd X A3 64 c3 PB → Calls Tryd.prog 21 #[.slice A6 32 (c3 - 32), .slice Ae 32 ce] X (GivesB true X) from fun X hX h => rsame16 A6 Ae 32 (c3 - 32) ce sd X (by rw [← P2.out, hA6]; exact h.cut (by omega)) (HE.out.below (BW.out _ hX)))
      clear hcp6 hmx6
      have KT := Lib.hid (show ∀ X, (Below w2.heap.size w2 X ∧ Rd X A3 64 c3 PB ∧ Rd X A4 32 c4 TP) → X.cell? ⟨g, 0, none⟩ = some (.slice As 32 cs) ∧ X.cell? ⟨g, 1, none⟩ = some (.slice Al 32 cl) ∧ X.cell? ⟨g, 2, none⟩ = some (.slice Ae 32 ce) from fun X hX => (KS.out X hX.1).2.2)
      clear hA6
      refine wp_region_steady (fun X => Below w2.heap.size w2 X ∧ Rd X A3 64 c3 PB ∧ Rd X A4 32 c4 TP) (by kernel_rfl) (by kernel_rfl) ⟨B6.out.drew, P6.out.drew, T6.out.drew⟩ ?_
      repeat (first | (refine seq_pure (v := ?_) (by rfl) ?_ ?_; rotate_left; (· (intro w' hS; obtain ⟨c0, c1, c2⟩ := KT.out w' hS; clear hS; go_simp; try with_reducible rfl)); simp only [Act.put, List.setIfInBounds_toArray, List.set_cons_zero, List.set_cons_succ]) | (refine seq_skip (by rfl) ?_; simp only [Act.put, List.setIfInBounds_toArray, List.set_cons_zero, List.set_cons_succ]) | fail)
      refine seq_call (f := 21) (args := #[.slice A3 32 c3, .slice A4 32 c4]) (v := .bool true) (by rfl) ?_ ?_ ?_
      · intro w' hS; obtain ⟨c0, c1, c2⟩ := KT.out w' hS; clear hS; go_simp
      · intro w' hS; exact (CS1.out _ hS.2.1 hS.2.2).mono fun e w'' ⟨h1, h2⟩ => ⟨h1, NX.out _ _ hS.1 h2, hS.2.1.below h2, hS.2.2.below h2⟩
      simp only [Act.put, List.setIfInBounds_toArray, List.set_cons_zero, List.set_cons_succ]
      repeat (first | (refine seq_pure (v := ?_) (by rfl) ?_ ?_; rotate_left; (· (intro w' hS; obtain ⟨c0, c1, c2⟩ := KT.out w' hS; clear hS; go_simp; try with_reducible rfl)); simp only [Act.put, List.setIfInBounds_toArray, List.set_cons_zero, List.set_cons_succ]) | (refine seq_skip (by rfl) ?_; simp only [Act.put, List.setIfInBounds_toArray, List.set_cons_zero, List.set_cons_succ]) | fail)
      refine seq_call (f := 21) (args := #[.slice A6 32 (c3 - 32), .slice Ae 32 ce]) (v := .bool true) (by rfl) ?_ ?_ ?_
      · intro w' hS; obtain ⟨c0, c1, c2⟩ := KT.out w' hS; clear hS; go_simp
      · intro w' hS; exact (CS2.out _ hS.1 hS.2.1).mono fun e w'' ⟨h1, h2⟩ => ⟨h1, NX.out _ _ hS.1 h2, hS.2.1.below h2, hS.2.2.below h2⟩
      simp only [Act.put, List.setIfInBounds_toArray, List.set_cons_zero, List.set_cons_succ]
      repeat (first | (refine seq_pure (v := ?_) (by rfl) ?_ ?_; rotate_left; (· (intro w' hS; obtain ⟨c0, c1, c2⟩ := KT.out w' hS; clear hS; go_simp; try with_reducible rfl)); simp only [Act.put, List.setIfInBounds_toArray, List.set_cons_zero, List.set_cons_succ]) | (refine seq_skip (by rfl) ?_; simp only [Act.put, List.setIfInBounds_toArray, List.set_cons_zero, List.set_cons_succ]) | fail)
      refine seq_nil ?_
      rintro w11 ⟨s11, _, _⟩
      have B11 := Lib.hid s11
      clear s11
      go_wp2
      go_ret
      exact ⟨rfl, BW.out _ B11.out⟩
    · obtain ⟨zz, hzz, hlz⟩ := hA false ⟨fun h => by have h9 := h.2; rw [d3] at h9; have h8 : tr < 2 ^ 0 := h9; omega, fun h => by cases h⟩
      rw [hzz] at CA
      have LZ := Lib.hid (show zz.length = 0 from hlz)
      have f2 : ((tr : Int) == 0) = false := by simp; omega
      clear hzz hlz hA d1 d2 d3 hly htr
      go_enter Tryd.func5, Tryd.ntmps5
      go_upto_region 1 with (fail)
      clear hw0 hg
      go_upto_region 6 with (go_at_call 7; ((with_reducible refine (awake16 M _ (M.bel HK.out B0.out)).mono ?_); rintro e w1 ⟨rfl, b1⟩; have B1 := Lib.hid (B0.out.trans (b1.mono B0.out.size)); have M1 := Lib.hid (M0.out.below b1 M0.out.lt); have k0 := M1.out.cell 0; have k1 := M1.out.cell 1; have k2 := M1.out.cell 2; simp only [List.getElem?_toArray, List.getElem?_cons_zero, List.getElem?_cons_succ] at k0 k1 k2; clear b1))
      clear k0 k1 k2
      obtain ⟨d, hd⟩ : ∃ d, w1.heap.size = d := ⟨_, rfl⟩
      obtain ⟨w2, hw2⟩ : ∃ w2, w1.alloc (.cells (shA 2 1) 23) = w2 := ⟨_, rfl⟩
      have X2 := Lib.hid (show Bk w2 d 23 (shA 2 1) by rw [← hw2]; exact Bk.newAt _ _ _ _ hd)
      have M2 := Lib.hid (show Bk w2 g 31 (mkA As 32 cs Al 32 cl Ae 32 ce) by rw [← hw2]; exact M1.out.alloc _)
      have B2 := Lib.hid (show Below w.heap.size w w2 by rw [← hw2]; exact B1.out.alloc B1.out.size _)
      first
        | rw [hw2, hd]
        | rw [hd]
        | skip
      clear hw2 hd
      have KS := Lib.hid (show ∀ X, Below w2.heap.size w2 X → X.cell? ⟨d, 0, none⟩ = some (.int .i64 2) ∧ X.cell? ⟨d, 1, none⟩ = some (.int .i64 1) ∧ X.cell? ⟨g, 0, none⟩ = some (.slice As 32 cs) ∧ X.cell? ⟨g, 1, none⟩ = some (.slice Al 32 cl) ∧ X.cell? ⟨g, 2, none⟩ = some (.slice Ae 32 ce) from fun X hX => ⟨(X2.out.below hX X2.out.lt).cell 0, (X2.out.below hX X2.out.lt).cell 1, (M2.out.below hX M2.out.lt).cell 0, (M2.out.below hX M2.out.lt).cell 1, (M2.out.below hX M2.out.lt).cell 2⟩)
      have NX := Lib.hid (show ∀ X Y, Below w2.heap.size w2 X → Below X.heap.size X Y → Below w2.heap.size w2 Y from fun X Y h h' => h.trans (h'.mono h.size))
      have BW := Lib.hid (show ∀ X, Below w2.heap.size w2 X → Below w.heap.size w X from fun X hX => B2.out.trans (hX.mono B2.out.size))
      have BR := Lib.hid (Below.refl w2.heap.size w2)
      obtain ⟨k0, k1, k2, k3, k4⟩ := KS.out _ BR.out
      go_upto_region 7 with (go_at_call 16; ((with_reducible refine (CP.out _ (BW.out _ BR.out)).mono ?_); intro e w3 h3; obtain ⟨A3, c3, rfl, r3, b3⟩ := givesN h3 L1.out; have P3 := Lib.hid r3; have B3 := Lib.hid b3; clear r3 b3 h3))
      clear k0 k1 k2 k3 k4
      obtain ⟨k0, k1, k2, k3, k4⟩ := KS.out _ B3.out
      go_upto_region 8 with (go_at_call 20; ((with_reducible refine (CT.out _ (BW.out _ B3.out)).mono ?_); intro e w4 h4; obtain ⟨A4, c4, rfl, r4, b4⟩ := givesN h4 L2.out; have T4 := Lib.hid r4; have B4 := Lib.hid (NX.out _ _ B3.out b4); have P4 := Lib.hid (P3.out.below b4); clear r4 b4 h4))
      clear k0 k1 k2 k3 k4
      obtain ⟨k0, k1, k2, k3, k4⟩ := KS.out _ B4.out
      go_upto_region 9 with (go_at_call 20; ((with_reducible refine (CA.out _ (BW.out _ B4.out)).mono ?_); intro e w5 h5; obtain ⟨A5, c5, rfl, r5, b5⟩ := givesN h5 LZ.out; have B5 := Lib.hid (NX.out _ _ B4.out b5); have P5 := Lib.hid (P4.out.below b5); have T5 := Lib.hid (T4.out.below b5); clear r5 b5 h5))
      clear k0 k1 k2 k3 k4
      obtain ⟨k0, k1, k2, k3, k4⟩ := KS.out _ B5.out
      go_upto_region 12 with (go_at_call 15; ((with_reducible refine (CN.out _).mono ?_); rintro e w6 ⟨rfl, b6⟩; have B6 := Lib.hid (NX.out _ _ B5.out b6); have P6 := Lib.hid (P5.out.below b6); have T6 := Lib.hid (T5.out.below b6); clear b6))
      clear k0 k1 k2 k3 k4
      have hcp6 := P6.out.cap
      have hmx6 := P6.out.max
      obtain ⟨A6, hA6⟩ : ∃ A6, A6 = if c3 = 32 then A3 else A3.map (·.add 32) := ⟨_, rfl⟩
      have C1 : ∀ W, (Instr.slice 29 (.slice A3 64 c3) none (some (.int .i64 32)) none).run Tryd.prog W = .ok (.slice A3 32 c3) W := fun W => run_cutSlH (m := 32) rfl (by omega) W
      have C2 : ∀ W, (Instr.sliceAt 29 (.slice A3 64 c3) none (some (.int .i64 32)) none).run Tryd.prog W = .ok (.slice A3 32 c3) W := fun W => run_cutSlHAt (m := 32) rfl (by omega) W
      have D1 : ∀ W, (Instr.slice 29 (.slice A3 64 c3) (some (.int .i64 32)) none none).run Tryd.prog W = .ok (.slice A6 32 (c3 - 32)) W := fun W => by rw [hA6]; exact run_cutSl (k := 32) rfl (by omega) W
      have D2 : ∀ W, (Instr.sliceAt 29 (.slice A3 64 c3) (some (.int .i64 32)) none none).run Tryd.prog W = .ok (.slice A6 32 (c3 - 32)) W := fun W => by rw [hA6]; exact run_cutSlAt (k := 32) rfl (by omega) W
      have CS1 := Lib.hid (show ∀ X, Rd X A3 64 c3 PB → Rd X A4 32 c4 TP → Calls Tryd.prog 21 #[.slice A3 32 c3, .slice A4 32 c4] X (GivesB true X) from fun X h h' => rsame16 A3 A4 32 c3 c4 TP X (by rw [← P1.out]; exact h.take (by omega)) h')
      have CS2 := Lib.hid (show ∀ X, Below w2.heap.size w2 X → Rd X A3 64 c3 PB → Calls Tryd.prog 21 #[.slice A6 32 (c3 - 32), .slice Ae 32 ce] X (GivesB true X) from fun X hX h => rsame16 A6 Ae 32 (c3 - 32) ce sd X (by rw [← P2.out, hA6]; exact h.cut (by omega)) (HE.out.below (BW.out _ hX)))
      clear hcp6 hmx6
      have KT := Lib.hid (show ∀ X, (Below w2.heap.size w2 X ∧ Rd X A3 64 c3 PB ∧ Rd X A4 32 c4 TP) → X.cell? ⟨g, 0, none⟩ = some (.slice As 32 cs) ∧ X.cell? ⟨g, 1, none⟩ = some (.slice Al 32 cl) ∧ X.cell? ⟨g, 2, none⟩ = some (.slice Ae 32 ce) from fun X hX => (KS.out X hX.1).2.2)
      clear hA6
      refine wp_region_steady (fun X => Below w2.heap.size w2 X ∧ Rd X A3 64 c3 PB ∧ Rd X A4 32 c4 TP) (by kernel_rfl) (by kernel_rfl) ⟨B6.out.drew, P6.out.drew, T6.out.drew⟩ ?_
      repeat (first | (refine seq_pure (v := ?_) (by rfl) ?_ ?_; rotate_left; (· (intro w' hS; obtain ⟨c0, c1, c2⟩ := KT.out w' hS; clear hS; go_simp; try with_reducible rfl)); simp only [Act.put, List.setIfInBounds_toArray, List.set_cons_zero, List.set_cons_succ]) | (refine seq_skip (by rfl) ?_; simp only [Act.put, List.setIfInBounds_toArray, List.set_cons_zero, List.set_cons_succ]) | fail)
      refine seq_call (f := 21) (args := #[.slice A3 32 c3, .slice A4 32 c4]) (v := .bool true) (by rfl) ?_ ?_ ?_
      · intro w' hS; obtain ⟨c0, c1, c2⟩ := KT.out w' hS; clear hS; go_simp
      · intro w' hS; exact (CS1.out _ hS.2.1 hS.2.2).mono fun e w'' ⟨h1, h2⟩ => ⟨h1, NX.out _ _ hS.1 h2, hS.2.1.below h2, hS.2.2.below h2⟩
      simp only [Act.put, List.setIfInBounds_toArray, List.set_cons_zero, List.set_cons_succ]
      repeat (first | (refine seq_pure (v := ?_) (by rfl) ?_ ?_; rotate_left; (· (intro w' hS; obtain ⟨c0, c1, c2⟩ := KT.out w' hS; clear hS; go_simp; try with_reducible rfl)); simp only [Act.put, List.setIfInBounds_toArray, List.set_cons_zero, List.set_cons_succ]) | (refine seq_skip (by rfl) ?_; simp only [Act.put, List.setIfInBounds_toArray, List.set_cons_zero, List.set_cons_succ]) | fail)
      refine seq_call (f := 21) (args := #[.slice A6 32 (c3 - 32), .slice Ae 32 ce]) (v := .bool true) (by rfl) ?_ ?_ ?_
      · intro w' hS; obtain ⟨c0, c1, c2⟩ := KT.out w' hS; clear hS; go_simp
      · intro w' hS; exact (CS2.out _ hS.1 hS.2.1).mono fun e w'' ⟨h1, h2⟩ => ⟨h1, NX.out _ _ hS.1 h2, hS.2.1.below h2, hS.2.2.below h2⟩
      simp only [Act.put, List.setIfInBounds_toArray, List.set_cons_zero, List.set_cons_succ]
      repeat (first | (refine seq_pure (v := ?_) (by rfl) ?_ ?_; rotate_left; (· (intro w' hS; obtain ⟨c0, c1, c2⟩ := KT.out w' hS; clear hS; go_simp; try with_reducible rfl)); simp only [Act.put, List.setIfInBounds_toArray, List.set_cons_zero, List.set_cons_succ]) | (refine seq_skip (by rfl) ?_; simp only [Act.put, List.setIfInBounds_toArray, List.set_cons_zero, List.set_cons_succ]) | fail)
      refine seq_nil ?_
      rintro w11 ⟨s11, _, _⟩
      have B11 := Lib.hid s11
      clear s11
      go_wp2
      go_ret
      exact ⟨rfl, BW.out _ B11.out⟩
  · obtain ⟨zz, hzz, hlz⟩ := hA false ⟨fun h => by have := h.1; omega, fun h => by cases h⟩
    rw [hzz] at CA
    have LZ := Lib.hid (show zz.length = 0 from hlz)
    have f1 : ((ly : Int) == 0) = false := by simp; omega
    have f3 : ((ly : Int) == 1) = false := by simp; omega
    clear hzz hlz hA d1 d3 hly htr
    go_enter Tryd.func5, Tryd.ntmps5
    go_upto_region 1 with (fail)
    clear hw0 hg
    go_upto_region 6 with (go_at_call 7; ((with_reducible refine (awake16 M _ (M.bel HK.out B0.out)).mono ?_); rintro e w1 ⟨rfl, b1⟩; have B1 := Lib.hid (B0.out.trans (b1.mono B0.out.size)); have M1 := Lib.hid (M0.out.below b1 M0.out.lt); have k0 := M1.out.cell 0; have k1 := M1.out.cell 1; have k2 := M1.out.cell 2; simp only [List.getElem?_toArray, List.getElem?_cons_zero, List.getElem?_cons_succ] at k0 k1 k2; clear b1))
    clear k0 k1 k2
    obtain ⟨d, hd⟩ : ∃ d, w1.heap.size = d := ⟨_, rfl⟩
    obtain ⟨w2, hw2⟩ : ∃ w2, w1.alloc (.cells (shA 2 1) 23) = w2 := ⟨_, rfl⟩
    have X2 := Lib.hid (show Bk w2 d 23 (shA 2 1) by rw [← hw2]; exact Bk.newAt _ _ _ _ hd)
    have M2 := Lib.hid (show Bk w2 g 31 (mkA As 32 cs Al 32 cl Ae 32 ce) by rw [← hw2]; exact M1.out.alloc _)
    have B2 := Lib.hid (show Below w.heap.size w w2 by rw [← hw2]; exact B1.out.alloc B1.out.size _)
    first
      | rw [hw2, hd]
      | rw [hd]
      | skip
    clear hw2 hd
    have KS := Lib.hid (show ∀ X, Below w2.heap.size w2 X → X.cell? ⟨d, 0, none⟩ = some (.int .i64 2) ∧ X.cell? ⟨d, 1, none⟩ = some (.int .i64 1) ∧ X.cell? ⟨g, 0, none⟩ = some (.slice As 32 cs) ∧ X.cell? ⟨g, 1, none⟩ = some (.slice Al 32 cl) ∧ X.cell? ⟨g, 2, none⟩ = some (.slice Ae 32 ce) from fun X hX => ⟨(X2.out.below hX X2.out.lt).cell 0, (X2.out.below hX X2.out.lt).cell 1, (M2.out.below hX M2.out.lt).cell 0, (M2.out.below hX M2.out.lt).cell 1, (M2.out.below hX M2.out.lt).cell 2⟩)
    have NX := Lib.hid (show ∀ X Y, Below w2.heap.size w2 X → Below X.heap.size X Y → Below w2.heap.size w2 Y from fun X Y h h' => h.trans (h'.mono h.size))
    have BW := Lib.hid (show ∀ X, Below w2.heap.size w2 X → Below w.heap.size w X from fun X hX => B2.out.trans (hX.mono B2.out.size))
    have BR := Lib.hid (Below.refl w2.heap.size w2)
    obtain ⟨k0, k1, k2, k3, k4⟩ := KS.out _ BR.out
    go_upto_region 7 with (go_at_call 16; ((with_reducible refine (CP.out _ (BW.out _ BR.out)).mono ?_); intro e w3 h3; obtain ⟨A3, c3, rfl, r3, b3⟩ := givesN h3 L1.out; have P3 := Lib.hid r3; have B3 := Lib.hid b3; clear r3 b3 h3))
    clear k0 k1 k2 k3 k4
    obtain ⟨k0, k1, k2, k3, k4⟩ := KS.out _ B3.out
    go_upto_region 8 with (go_at_call 20; ((with_reducible refine (CT.out _ (BW.out _ B3.out)).mono ?_); intro e w4 h4; obtain ⟨A4, c4, rfl, r4, b4⟩ := givesN h4 L2.out; have T4 := Lib.hid r4; have B4 := Lib.hid (NX.out _ _ B3.out b4); have P4 := Lib.hid (P3.out.below b4); clear r4 b4 h4))
    clear k0 k1 k2 k3 k4
    obtain ⟨k0, k1, k2, k3, k4⟩ := KS.out _ B4.out
    go_upto_region 9 with (go_at_call 20; ((with_reducible refine (CA.out _ (BW.out _ B4.out)).mono ?_); intro e w5 h5; obtain ⟨A5, c5, rfl, r5, b5⟩ := givesN h5 LZ.out; have B5 := Lib.hid (NX.out _ _ B4.out b5); have P5 := Lib.hid (P4.out.below b5); have T5 := Lib.hid (T4.out.below b5); clear r5 b5 h5))
    clear k0 k1 k2 k3 k4
    obtain ⟨k0, k1, k2, k3, k4⟩ := KS.out _ B5.out
    go_upto_region 12 with (go_at_call 15; ((with_reducible refine (CN.out _).mono ?_); rintro e w6 ⟨rfl, b6⟩; have B6 := Lib.hid (NX.out _ _ B5.out b6); have P6 := Lib.hid (P5.out.below b6); have T6 := Lib.hid (T5.out.below b6); clear b6))
    clear k0 k1 k2 k3 k4
    have hcp6 := P6.out.cap
    have hmx6 := P6.out.max
    obtain ⟨A6, hA6⟩ : ∃ A6, A6 = if c3 = 32 then A3 else A3.map (·.add 32) := ⟨_, rfl⟩
    have C1 : ∀ W, (Instr.slice 29 (.slice A3 64 c3) none (some (.int .i64 32)) none).run Tryd.prog W = .ok (.slice A3 32 c3) W := fun W => run_cutSlH (m := 32) rfl (by omega) W
    have C2 : ∀ W, (Instr.sliceAt 29 (.slice A3 64 c3) none (some (.int .i64 32)) none).run Tryd.prog W = .ok (.slice A3 32 c3) W := fun W => run_cutSlHAt (m := 32) rfl (by omega) W
    have D1 : ∀ W, (Instr.slice 29 (.slice A3 64 c3) (some (.int .i64 32)) none none).run Tryd.prog W = .ok (.slice A6 32 (c3 - 32)) W := fun W => by rw [hA6]; exact run_cutSl (k := 32) rfl (by omega) W
    have D2 : ∀ W, (Instr.sliceAt 29 (.slice A3 64 c3) (some (.int .i64 32)) none none).run Tryd.prog W = .ok (.slice A6 32 (c3 - 32)) W := fun W => by rw [hA6]; exact run_cutSlAt (k := 32) rfl (by omega) W
    have CS1 := Lib.hid (show ∀ X, Rd X A3 64 c3 PB → Rd X A4 32 c4 TP → Calls Tryd.prog 21 #[.slice A3 32 c3, .slice A4 32 c4] X (GivesB true X) from fun X h h' => rsame16 A3 A4 32 c3 c4 TP X (by rw [← P1.out]; exact h.take (by omega)) h')
    have CS2 := Lib.hid (show ∀ X, Below w2.heap.size w2 X → Rd X A3 64 c3 PB → Calls Tryd.prog 21 #[.slice A6 32 (c3 - 32), .slice Ae 32 ce] X (GivesB true X) from fun X hX h => rsame16 A6 Ae 32 (c3 - 32) ce sd X (by rw [← P2.out, hA6]; exact h.cut (by omega)) (HE.out.below (BW.out _ hX)))
    clear hcp6 hmx6
    have KT := Lib.hid (show ∀ X, (Below w2.heap.size w2 X ∧ Rd X A3 64 c3 PB ∧ Rd X A4 32 c4 TP) → X.cell? ⟨g, 0, none⟩ = some (.slice As 32 cs) ∧ X.cell? ⟨g, 1, none⟩ = some (.slice Al 32 cl) ∧ X.cell? ⟨g, 2, none⟩ = some (.slice Ae 32 ce) from fun X hX => (KS.out X hX.1).2.2)
    clear hA6
    refine wp_region_steady (fun X => Below w2.heap.size w2 X ∧ Rd X A3 64 c3 PB ∧ Rd X A4 32 c4 TP) (by kernel_rfl) (by kernel_rfl) ⟨B6.out.drew, P6.out.drew, T6.out.drew⟩ ?_
    repeat (first | (refine seq_pure (v := ?_) (by rfl) ?_ ?_; rotate_left; (· (intro w' hS; obtain ⟨c0, c1, c2⟩ := KT.out w' hS; clear hS; go_simp; try with_reducible rfl)); simp only [Act.put, List.setIfInBounds_toArray, List.set_cons_zero, List.set_cons_succ]) | (refine seq_skip (by rfl) ?_; simp only [Act.put, List.setIfInBounds_toArray, List.set_cons_zero, List.set_cons_succ]) | fail)
    refine seq_call (f := 21) (args := #[.slice A3 32 c3, .slice A4 32 c4]) (v := .bool true) (by rfl) ?_ ?_ ?_
    · intro w' hS; obtain ⟨c0, c1, c2⟩ := KT.out w' hS; clear hS; go_simp
    · intro w' hS; exact (CS1.out _ hS.2.1 hS.2.2).mono fun e w'' ⟨h1, h2⟩ => ⟨h1, NX.out _ _ hS.1 h2, hS.2.1.below h2, hS.2.2.below h2⟩
    simp only [Act.put, List.setIfInBounds_toArray, List.set_cons_zero, List.set_cons_succ]
    repeat (first | (refine seq_pure (v := ?_) (by rfl) ?_ ?_; rotate_left; (· (intro w' hS; obtain ⟨c0, c1, c2⟩ := KT.out w' hS; clear hS; go_simp; try with_reducible rfl)); simp only [Act.put, List.setIfInBounds_toArray, List.set_cons_zero, List.set_cons_succ]) | (refine seq_skip (by rfl) ?_; simp only [Act.put, List.setIfInBounds_toArray, List.set_cons_zero, List.set_cons_succ]) | fail)
    refine seq_call (f := 21) (args := #[.slice A6 32 (c3 - 32), .slice Ae 32 ce]) (v := .bool true) (by rfl) ?_ ?_ ?_
    · intro w' hS; obtain ⟨c0, c1, c2⟩ := KT.out w' hS; clear hS; go_simp
    · intro w' hS; exact (CS2.out _ hS.1 hS.2.1).mono fun e w'' ⟨h1, h2⟩ => ⟨h1, NX.out _ _ hS.1 h2, hS.2.1.below h2, hS.2.2.below h2⟩
    simp only [Act.put, List.setIfInBounds_toArray, List.set_cons_zero, List.set_cons_succ]
    repeat (first | (refine seq_pure (v := ?_) (by rfl) ?_ ?_; rotate_left; (· (intro w' hS; obtain ⟨c0, c1, c2⟩ := KT.out w' hS; clear hS; go_simp; try with_reducible rfl)); simp only [Act.put, List.setIfInBounds_toArray, List.set_cons_zero, List.set_cons_succ]) | (refine seq_skip (by rfl) ?_; simp only [Act.put, List.setIfInBounds_toArray, List.set_cons_zero, List.set_cons_succ]) | fail)
    refine seq_nil ?_
    rintro w11 ⟨s11, _, _⟩
    have B11 := Lib.hid s11
    clear s11
    go_wp2
    go_ret
    exact ⟨rfl, BW.out _ B11.out⟩
end Go.Proofs.YtkpfppiedadmbaaDoor.S16
