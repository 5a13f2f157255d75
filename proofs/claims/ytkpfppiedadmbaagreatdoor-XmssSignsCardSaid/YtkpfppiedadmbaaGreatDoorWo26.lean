/-
  Texts put together: Xm6, Xm7. No statement is proved here.
-/
import Derived.Test.YtkpfppiedadmbaaGreatDoorWo22
import Derived.Test.YtkpfppiedadmbaaGreatDoorWo25

/-
  The landed package xmss: an address, where a leaf and its way lead. No statement is proved here.
-/
namespace Go.Proofs.YtkpfppiedadmbaaGreatDoor.S16
set_option linter.unusedSimpArgs false
set_option linter.unusedVariables false
set_option maxRecDepth 4096
open Go.RowKit S15

set_option maxHeartbeats 1000000 in
theorem sumPlace_any (ly tr g i : Nat) (hg : g < 2147483648) (w : World) :
    Calls Tryz.prog 56 #[.int .u32 (ly : Int), .int .u64 (tr : Int), .int .i64 (g : Int), .int .u32 (i : Int)] w fun e w' => e = .returned (adV (adT ly tr g i)) ∧ Below w.heap.size w w' := by
  have HR := Lib.hid (Bk.new w 76 #[.int .u32 0, .int .u64 0, .int .u32 0, .int .u32 0, .int .u32 0, .int .u32 0])
  have HB := Lib.hid (show Below w.heap.size w (w.alloc (.cells #[.int .u32 0, .int .u64 0, .int .u32 0, .int .u32 0, .int .u32 0, .int .u32 0] 76)) from (Below.refl _ _).alloc (Nat.le_refl _) _)
  have ei : (g : Int) % 4294967296 = (g : Int) := by omega
  unfold adV
  go_enter Tryz.func56, Tryz.ntmps56
  go_upto_region 1 with (fail)
  obtain ⟨W, hW⟩ : ∃ W, w.alloc (.cells #[.int .u32 0, .int .u64 0, .int .u32 0, .int .u32 0, .int .u32 0, .int .u32 0] 76) = W := ⟨_, rfl⟩
  rw [hW] at HR HB ⊢
  have d0 := HR.out.cell 0
  have d1 := HR.out.cell 1
  have d2 := HR.out.cell 2
  have d3 := HR.out.cell 3
  have d4 := HR.out.cell 4
  have d5 := HR.out.cell 5
  have e0 := HR.out.frozen 0
  have e1 := HR.out.frozen 1
  have e2 := HR.out.frozen 2
  have e3 := HR.out.frozen 3
  have e4 := HR.out.frozen 4
  have e5 := HR.out.frozen 5
  simp at d0 d1 d2 d3 d4 d5
  clear hW
  go_wp2
  refine bodyPost_ret (results_cell_row rfl _ _ w.heap.size 76 #[.int .u32 (ly : Int), .int .u64 (tr : Int), .int .u32 2, .int .u32 0, .int .u32 (g : Int), .int .u32 (i : Int)] (0, 0) _ rfl ((((((HR.out.put 0 _).put 1 _).put 2 _).put 3 _).put 4 _).put 5 _) Tryz.underlying76 rfl Tryz.infoAd) rfl ?_
  exact ⟨rfl, (((((HB.out.setCell (by simp) _).setCell (by simp) _).setCell (by simp) _).setCell (by simp) _).setCell (by simp) _).setCell (by simp) _⟩
abbrev plA (ly tr q : Nat) : Array Value := #[.int .u32 (ly : Int), .int .u64 (tr : Int), .int .u32 (q : Int)]
theorem climb_take (sd : List UInt8) (ly tr : Nat) : ∀ (k g i : Nat) (x l : List UInt8), climbF sd ly tr g k i x (l.take (32 * k)) = climbF sd ly tr g k i x l
  | 0, g, i, x, l => rfl
  | k + 1, g, i, x, l => by
    simp only [climbF]
    rw [List.take_take, show min 32 (32 * (k + 1)) = 32 by omega, List.drop_take, show 32 * (k + 1) - 32 = 32 * k by omega, climb_take sd ly tr k]
set_option maxHeartbeats 2000000 in
/-- The function value that tells the sum above two. -/
theorem above_any (ly tr q j i bs bp : Nat) (hj : j < 60) (hi : i < 4294967296) (hly : ly < 4294967296) (htr : tr < 18446744073709551616) (Ae : Option Addr) (ce : Nat) (sd : List UInt8) (A1 : Option Addr) (c1 : Nat) (xs : List UInt8) (A2 : Option Addr) (c2 : Nat) (ys : List UInt8) (w : World) (hk : GK w) (hs : Bk w bs 24 #[.slice Ae 32 ce]) (hp : Bk w bp 52 (plA ly tr q)) (he : Rd w Ae 32 ce sd) (h1 : Rd w A1 32 c1 xs) (h2 : Rd w A2 32 c2 ys) :
    Calls Tryz.prog 70 #[.int .i64 ((j : Int) + 1), .int .u32 (i : Int), .slice A1 32 c1, .slice A2 32 c2, .pointer (some ⟨bs, 0, none⟩), .pointer (some ⟨bp, 0, none⟩)] w (New w.heap.size w (hL sd (adT ly tr j i) xs ys)) := by
  have SP := Lib.hid (show ∀ X, Calls Tryz.prog 56 #[.int .u32 (ly : Int), .int .u64 (tr : Int), .int .i64 (j : Int), .int .u32 (i : Int)] X fun e w' => e = .returned (adV (adT ly tr j i)) ∧ Below X.heap.size X w' from fun X => sumPlace_any ly tr j i (by omega) X)
  have hOk : (adT ly tr j i).Ok := ⟨hly, htr, by show 2 < _; omega, by show 0 < _; omega, by show j < _; omega, by show i < _; omega⟩
  have HV := Lib.hid (show ∀ X, Below w.heap.size w X → Calls Tryz.prog 55 #[.slice Ae 32 ce, adV (adT ly tr j i), .slice A1 32 c1, .slice A2 32 c2] X (New X.heap.size X (hL sd (adT ly tr j i) xs ys)) from fun X hX => h_any _ hOk Ae ce sd A1 c1 xs A2 c2 ys X (hk.bel hX) (he.below hX) (h1.below hX) (h2.below hX))
  have k0 : w.cell? ⟨bs, 0, none⟩ = some (.slice Ae 32 ce) := hs.cell 0
  have p0 : w.cell? ⟨bp, 0, none⟩ = some (.int .u32 (ly : Int)) := hp.cell 0
  have p1 : w.cell? ⟨bp, 1, none⟩ = some (.int .u64 (tr : Int)) := hp.cell 1
  have KS := Lib.hid (show ∀ X, Below w.heap.size w X → X.cell? ⟨bs, 0, none⟩ = some (.slice Ae 32 ce) ∧ X.cell? ⟨bp, 0, none⟩ = some (.int .u32 (ly : Int)) ∧ X.cell? ⟨bp, 1, none⟩ = some (.int .u64 (tr : Int)) from fun X hX => ⟨(hs.below hX hs.lt).cell 0, (hp.below hX hp.lt).cell 0, (hp.below hX hp.lt).cell 1⟩)
  have BZ := Lib.hid (Below.refl w.heap.size w)
  have e1 : IntKind.i64.wrap ((j : Int) + 1 - 1) = (j : Int) := by rw [IntKind.wrap_i64]; omega
  have e2 : IntKind.i64.wrap (j : Int) = (j : Int) := by rw [IntKind.wrap_i64]; omega
  clear hOk hk hs hp he h1 h2 hly htr
  go_enter Tryz.func70, Tryz.ntmps70
  go_upto_region 1 with (fail)
  (go_region_held3 (fun X => X.cell? ⟨bs, 0, none⟩ = some (.slice Ae 32 ce) ∧ X.cell? ⟨bp, 0, none⟩ = some (.int .u32 (ly : Int)) ∧ X.cell? ⟨bp, 1, none⟩ = some (.int .u64 (tr : Int)))
    (first
      | exact KS.out _ B2.out
      | exact KS.out _ B1.out
      | exact KS.out _ BZ.out.drew)
    (first
      | (go_at_call 56; ((with_reducible refine (SP.out _).mono ?_); rintro e w1 ⟨rfl, b1⟩; have B1 := Lib.hid (BZ.out.drew.trans (b1.mono BZ.out.size)); clear b1))
      | (go_at_call 55; ((with_reducible refine (HV.out _ B1.out).mono ?_); rintro e w2 ⟨A3, n3, c3, rfl, q3, b3⟩; have O3 := Lib.hid q3; have B2 := Lib.hid (B1.out.trans (b3.mono B1.out.size)); clear q3 b3))
      | fail))
  go_wp2
  go_ret
  exact New.mk (own_base O3.out B1.out.size) B2.out
/-- Rows of 32 bytes that lie in a row of bytes. -/
structure Pts (w : World) (A : Option Addr) (c h : Nat) (way : List UInt8) : Prop where
  at_ : ∀ j, j < h → ∃ b off B cB, A = some ⟨b, off, none⟩ ∧ w.cell? ⟨b, off + j, none⟩ = some (.slice B 32 cB) ∧ b < w.heap.size ∧ Rd w B 32 cB ((way.drop (32 * j)).take 32)
  cap : h ≤ c
set_option maxHeartbeats 4000000 in
theorem up16_any (ly tr q h bs bp : Nat) (hly : ly < 4294967296) (htr : tr < 18446744073709551616) (hq : q < 4294967296) (hh : h ≤ 60) (Ae : Option Addr) (ce : Nat) (sd : List UInt8) (Ax : Option Addr) (cx : Nat) (xs : List UInt8) (Aw : Option Addr) (cw : Nat) (way : List UInt8) (w : World) (hk : GK w) (hs : Bk w bs 24 #[.slice Ae 32 ce]) (hp : Bk w bp 52 (plA ly tr q)) (he : Rd w Ae 32 ce sd) (hx : Rd w Ax 32 cx xs) (hw : Pts w Aw cw h way) :
    Calls Tryz.prog 71 #[.slice Ax 32 cx, .int .u32 (q : Int), .slice Aw h cw, .func (.func 70) #[] #[.pointer (some ⟨bs, 0, none⟩), .pointer (some ⟨bp, 0, none⟩)]] w (Gives32 w (climbF sd ly tr 0 h q xs way)) := by
  have HK := Lib.hid hk
  have HE := Lib.hid he
  have HX := Lib.hid hx
  have HW := Lib.hid hw
  have HS := Lib.hid hs
  have HP := Lib.hid hp
  obtain ⟨R, hR⟩ : ∃ R, climbF sd ly tr 0 h q xs way = R := ⟨_, rfl⟩
  have HR := Lib.hid hR
  rw [hR]
  clear hk he hx hw hR hs hp
  go_enter Tryz.func71, Tryz.ntmps71
  go_wp2
  go_loopw [0, 1, 15] (fun sum i g wr => ∃ (j : Nat) (A : Option Addr) (c : Nat) (y : List UInt8), j ≤ h ∧ g = .int .i64 (j : Int) ∧ i = .int .u32 ((q / 2 ^ j : Nat) : Int) ∧ sum = .slice A 32 c ∧ Rd wr A 32 c y ∧ climbF sd ly tr j (h - j) (q / 2 ^ j) y (way.drop (32 * j)) = R ∧ Below w.heap.size w wr)
    (fun _ _ g _ => h - (intOf g).toNat)
  case atStart =>
    exact ⟨0, Ax, cx, xs, Nat.zero_le _, rfl, by simp, rfl, HX.out, by simpa using HR.out, Below.refl _ _⟩
  case round =>
    obtain ⟨j, A, c, y, hj, rfl, rfl, rfl, r1, hc, hbel⟩ := hrel
    have hq2 : q / 2 ^ j ≤ q := Nat.div_le_self _ _
    obtain ⟨i, hi⟩ : ∃ i : Nat, i = q / 2 ^ j := ⟨_, rfl⟩
    have hq3 : q / 2 ^ (j + 1) = i / 2 := by rw [Nat.pow_succ, ← Nat.div_div_eq_div_mul, hi]
    have HQ := Lib.hid hq3
    rw [← hi] at hq2 hc ⊢
    have RA := Lib.hid r1
    have BL := Lib.hid hbel
    have HC := Lib.hid hc
    have i32 : i < 4294967296 := by omega
    clear r1 hbel hc hi hq3 hq2
    by_cases hlt : j < h
    · obtain ⟨b, off, B, cB, rfl, k1, hb, r2⟩ := HW.out.at_ j hlt
      have t0 : (j : Int) < (h : Int) := by omega
      have d1 : wr.cell? ⟨b, off + j, none⟩ = some (.slice B 32 cB) := (BL.out.cell (p := ⟨b, off + j, none⟩) hb).trans k1
      have HSS := Lib.hid (show climbF sd ly tr (j + 1) (h - (j + 1)) (i / 2) (joinT sd ly tr j i y ((way.drop (32 * j)).take 32)) (way.drop (32 * (j + 1))) = R by
        have := HC.out
        rw [show h - j = (h - (j + 1)) + 1 by omega, climbF, List.drop_drop, show 32 * j + 32 = 32 * (j + 1) by omega] at this
        exact this)
      obtain ⟨z, hz⟩ : ∃ z, z = (way.drop (32 * j)).take 32 := ⟨_, rfl⟩
      rw [← hz] at r2 HSS
      have e2 : ((i / 2 : Nat) : Int) = (i : Int) / 2 := by omega
      have RB := Lib.hid (r2.below BL.out)
      have HV := Lib.hid (show Calls Tryz.prog 70 #[.int .i64 ((j : Int) + 1), .int .u32 ((i : Int) / 2), .slice A 32 c, .slice B 32 cB, .pointer (some ⟨bs, 0, none⟩), .pointer (some ⟨bp, 0, none⟩)] wr (New wr.heap.size wr (hL sd (adT ly tr j (i / 2)) y z)) from by
        rw [← e2]
        exact above_any ly tr q j (i / 2) bs bp (by omega) (by omega) hly htr Ae ce sd A c y B cB z wr (HK.out.bel BL.out) (HS.out.below BL.out HS.out.lt) (HP.out.below BL.out HP.out.lt) (HE.out.below BL.out) RA.out RB.out)
      have HO := Lib.hid (show Calls Tryz.prog 70 #[.int .i64 ((j : Int) + 1), .int .u32 ((i : Int) / 2), .slice B 32 cB, .slice A 32 c, .pointer (some ⟨bs, 0, none⟩), .pointer (some ⟨bp, 0, none⟩)] wr (New wr.heap.size wr (hL sd (adT ly tr j (i / 2)) z y)) from by
        rw [← e2]
        exact above_any ly tr q j (i / 2) bs bp (by omega) (by omega) hly htr Ae ce sd B cB z A c y wr (HK.out.bel BL.out) (HS.out.below BL.out HS.out.lt) (HP.out.below BL.out HP.out.lt) (HE.out.below BL.out) RB.out RA.out)
      clear hz e2 k1 hb r2
      by_cases po : i % 2 = 1
      · have e1 : joinT sd ly tr j i y z = hL sd (adT ly tr j (i / 2)) z y := by rw [joinT, if_pos po]
        rw [e1] at HSS
        have t1 : ((i : Int) % 2 == 1) = true := by simp; omega
        clear e1 po
        go_wp2_with (go_at_call 70; ((with_reducible refine HO.out.mono ?_); rintro e w3 ⟨A3, n3, c3, rfl, q3, b3⟩; obtain rfl : n3 = 32 := (own_len q3).symm.trans (num_len _ _ _); have R3 := Lib.hid (Rd.own q3); have B3 := Lib.hid (BL.out.trans (b3.mono BL.out.size)); clear q3 b3))
        go_roundw
        case rel => exact ⟨j + 1, A3, c3, _, by omega, by go_num, by rw [HQ.out]; simp, rfl, R3.out, by rw [HQ.out]; exact HSS.out, B3.out⟩
        case measure => simp [intOf]; omega
      · have e1 : joinT sd ly tr j i y z = hL sd (adT ly tr j (i / 2)) y z := by rw [joinT, if_neg po]
        rw [e1] at HSS
        have t1 : ((i : Int) % 2 == 1) = false := by simp; omega
        clear e1 po
        go_wp2_with (go_at_call 70; ((with_reducible refine HV.out.mono ?_); rintro e w3 ⟨A3, n3, c3, rfl, q3, b3⟩; obtain rfl : n3 = 32 := (own_len q3).symm.trans (num_len _ _ _); have R3 := Lib.hid (Rd.own q3); have B3 := Lib.hid (BL.out.trans (b3.mono BL.out.size)); clear q3 b3))
        go_roundw
        case rel => exact ⟨j + 1, A3, c3, _, by omega, by go_num, by rw [HQ.out]; simp, rfl, R3.out, by rw [HQ.out]; exact HSS.out, B3.out⟩
        case measure => simp [intOf]; omega
    · obtain rfl : j = h := by omega
      have t0 : ¬ (j : Int) < (j : Int) := by omega
      have hy : y = R := by
        have := HC.out
        rw [Nat.sub_self] at this
        exact this
      subst hy
      go_wp2
      go_ret
      exact ⟨A, c, rfl, RA.out, BL.out⟩
theorem collect_any (A : Option Addr) (h c b1 b2 : Nat) (w : World) (hc : 32 * h ≤ c) (hh : h ≤ 60) (h1 : Bk w b1 24 #[.slice A (32 * h : Nat) c]) (h2 : Bk w b2 3 #[.int .i64 32]) :
    Calls Tryz.prog 72 #[.func (.func 97) #[] #[.pointer (some ⟨b1, 0, none⟩), .pointer (some ⟨b2, 0, none⟩)]] w fun e w' => ∃ A' c', e = .returned (.slice A' h c') ∧ w'.ownsRow w.heap.size 24 1 (.slice A' h c') h (prts A h) ∧ Below w.heap.size w w' := by
  have GA := Lib.hid (gather_any A h c b1 b2 w hc hh h1 h2)
  clear hc hh h1 h2
  go_enter Tryz.func72, Tryz.ntmps72
  go_wp2_with (go_at_call 96; ((with_reducible refine GA.out.mono ?_); rintro e w1 ⟨A', c', rfl, o1, b1⟩; have O1 := Lib.hid o1; have B1 := Lib.hid b1; clear o1 b1))
  go_ret
  exact ⟨A', c', rfl, O1.out, B1.out⟩
/-- The parts, put one behind the other, read as they should. -/
theorem pts_mk {w w0 : World} {A A' : Option Addr} {h c c' : Nat} {way : List UInt8} (hr : Rd w0 A (32 * h) c way) (hb : Below w0.heap.size w0 w) {B : Nat} (ho : w.ownsRow B 24 1 (.slice A' h c') h (prts A h)) : Pts w A' c' h way := by
  refine ⟨fun j hj => ?_, ?_⟩
  · have hcap := hr.cap
    have r := ((hr.below hb).cut (k := 32 * j) (by omega)).take (k := 32) (by omega)
    rw [if_neg (by omega)] at r
    rcases ho.2 with ⟨_, h0⟩ | ⟨g, cap, cur, hv, hB, hh, h1, h2, h3, h4⟩
    · omega
    · injection hv with hv _ _
      subst hv
      refine ⟨g, 0, A.map (·.add (32 * j)), 32, rfl, ?_, (Array.getElem?_eq_some_iff.1 hh).1, ?_⟩
      · have := ho.cellAt j (by omega)
        rw [prts_get _ hj] at this
        simpa using this
      · exact ⟨r.len, Nat.le_refl _, by simp [maxLen], (fun e => by have h9 := r.at_ (by omega); rw [e] at h9; obtain ⟨_, _, h, _⟩ := h9; cases h), r.at_⟩
  · rcases ho.2 with ⟨hv, h0⟩ | ⟨g, cap, cur, hv, hB, hh, h1, h2, h3, h4⟩
    · injection hv; omega
    · injection hv; omega
set_option maxHeartbeats 4000000 in
theorem climb_any (ly tr q h : Nat) (hly : ly < 4294967296) (htr : tr < 18446744073709551616) (hq : q < 4294967296) (hh : h ≤ 60) (Ae : Option Addr) (ce : Nat) (sd : List UInt8) (Ax : Option Addr) (cx : Nat) (xs : List UInt8) (Aw : Option Addr) (cw : Nat) (way : List UInt8) (w : World) (hk : GK w) (he : Rd w Ae 32 ce sd) (hx : Rd w Ax 32 cx xs) (hw : Rd w Aw (32 * h) cw way) :
    Calls Tryz.prog 45 #[.agg (plA ly tr q), .slice Ae 32 ce, .slice Ax 32 cx, .slice Aw (32 * h : Nat) cw] w (Gives32 w (climbF sd ly tr 0 h q xs way)) := by
  have hmf : ∀ (fn : Fn) (first cap : Array Value) (w : World), (Instr.makeFunc fn first cap).run Tryz.prog w = .ok (.func fn first cap) w := fun _ _ _ _ => rfl
  obtain ⟨b, hb⟩ : ∃ b, w.heap.size = b := ⟨_, rfl⟩
  obtain ⟨w0, hw0⟩ : ∃ w0, (w.alloc (.cells (plA ly tr q) 52)).alloc (.cells #[.slice Ae 32 ce] 24) = w0 := ⟨_, rfl⟩
  have P0 := Lib.hid (show Bk w0 b 52 (plA ly tr q) by rw [← hw0]; exact (Bk.newAt _ _ _ _ hb).alloc _)
  have S0 := Lib.hid (show Bk w0 (b + 1) 24 #[.slice Ae 32 ce] by rw [← hw0]; exact Bk.newAt _ _ _ _ (by simp [hb]))
  have B0 := Lib.hid (show Below w.heap.size w w0 by rw [← hw0]; exact ((Below.refl _ _).alloc (Nat.le_refl _) _).alloc (by simp) _)
  have k2 : w0.cell? ⟨b, 2, none⟩ = some (.int .u32 (q : Int)) := P0.out.cell 2
  have BP := Lib.hid (show ∀ X, Below w0.heap.size w0 X → X.cell? ⟨b, 2, none⟩ = some (.int .u32 (q : Int)) from fun X hX => (P0.out.below hX P0.out.lt).cell 2)
  have BD := Lib.hid (Below.refl w0.heap.size w0)
  have hcap := hw.cap
  obtain ⟨M, hM⟩ : ∃ M : Nat, M = 32 * h := ⟨_, rfl⟩
  have CH := Lib.hid (show ∀ X, Calls Tryz.prog 73 #[.slice Aw M cw, .int .i64 32] X fun e w' => ∃ b1 b2, e = .returned (.func (.func 97) #[] #[.pointer (some ⟨b1, 0, none⟩), .pointer (some ⟨b2, 0, none⟩)]) ∧ (Bk w' b1 24 #[.slice Aw M cw] ∧ Bk w' b2 3 #[.int .i64 32] ∧ Below X.heap.size X w') from fun X => (chunk_any Aw M cw X).mono (by
    rintro e w' ⟨rfl, rfl⟩
    exact ⟨_, _, rfl, (Bk.new _ _ _).alloc _, Bk.newAt _ _ _ _ (by simp), ((Below.refl _ _).alloc (Nat.le_refl _) _).alloc (by simp) _⟩))
  have CO := Lib.hid (show ∀ X b1 b2, Bk X b1 24 #[.slice Aw M cw] → Bk X b2 3 #[.int .i64 32] → Calls Tryz.prog 72 #[.func (.func 97) #[] #[.pointer (some ⟨b1, 0, none⟩), .pointer (some ⟨b2, 0, none⟩)]] X fun e w' => ∃ A' c', e = .returned (.slice A' h c') ∧ w'.ownsRow X.heap.size 24 1 (.slice A' h c') h (prts Aw h) ∧ Below X.heap.size X w' from fun X b1 b2 h1 h2 => collect_any Aw h cw b1 b2 X (by omega) hh (by rw [← hM]; exact h1) h2)
  have UP := Lib.hid (show ∀ X A' c', Below w0.heap.size w0 X → (∃ B, X.ownsRow B 24 1 (.slice A' h c') h (prts Aw h)) → Calls Tryz.prog 71 #[.slice Ax 32 cx, .int .u32 (q : Int), .slice A' h c', .func (.func 70) #[] #[.pointer (some ⟨b + 1, 0, none⟩), .pointer (some ⟨b, 0, none⟩)]] X (Gives32 X (climbF sd ly tr 0 h q xs way)) from fun X A' c' hX ⟨B, ho⟩ => by
    have hX' := B0.out.trans (hX.mono B0.out.size)
    exact up16_any ly tr q h (b + 1) b hly htr hq hh Ae ce sd Ax cx xs A' c' way X (hk.bel hX') (S0.out.below hX S0.out.lt) (P0.out.below hX P0.out.lt) (he.below hX') (hx.below hX') (pts_mk hw hX' ho))
  rw [← hM]
  clear hw hM hcap hk he hx
  go_enter Tryz.func45, Tryz.ntmps45
  go_upto_region 2 with (fail)
  clear hw0
  (go_region_held3 (fun X => X.cell? ⟨b, 2, none⟩ = some (.int .u32 (q : Int)))
    (first
      | exact BP.out _ B3.out
      | exact BP.out _ B2.out
      | exact BP.out _ B1.out
      | exact BP.out _ BD.out.drew)
    (first
      | (go_at_call 73; ((with_reducible refine (CH.out _).mono ?_); rintro e w1 ⟨c1, c2, rfl, h1, h2, h3⟩; have H1 := Lib.hid h1; have H2 := Lib.hid h2; have B1 := Lib.hid (BD.out.drew.trans (h3.mono BD.out.size)); clear h1 h2 h3))
      | (go_at_call 72; ((with_reducible refine (CO.out _ _ _ H1.out H2.out).mono ?_); rintro e w2 ⟨A2, d2, rfl, o2, b2⟩; have O2 := Lib.hid o2; have B2 := Lib.hid (B1.out.trans (b2.mono B1.out.size)); clear o2 b2))
      | (go_at_call 71; ((with_reducible refine (UP.out _ _ _ B2.out ⟨_, O2.out⟩).mono ?_); rintro e w3 ⟨A3, c3, rfl, r3, b3⟩; have R3 := Lib.hid r3; have B3 := Lib.hid (B2.out.trans (b3.mono B2.out.size)); clear r3 b3))
      | fail))
  go_wp2
  go_ret
  exact ⟨A3, c3, rfl, R3.out, B0.out.trans (B3.out.mono B0.out.size)⟩
end Go.Proofs.YtkpfppiedadmbaaGreatDoor.S16

/-
  The landed package xmss: the root of a tree's sums, and the way of a leaf. No statement is proved here.
-/
namespace Go.Proofs.YtkpfppiedadmbaaGreatDoor.S16
set_option linter.unusedSimpArgs false
set_option linter.unusedVariables false
set_option maxRecDepth 4096
open Go.RowKit S15

/-- The sums of a tree, height by height. -/
abbrev hE (sec sd : List UInt8) (ly tr g : Nat) : El := rowE (sumT sec sd ly tr g)
abbrev treeE (sec sd : List UInt8) (ly tr h : Nat) : El := slE (fun g => 2 ^ (h - g)) (hE sec sd ly tr)
theorem treeE_fp (sec sd : List UInt8) (ly tr h : Nat) : FP (treeE sec sd ly tr h) := slE_fp fun g => rowE_fp _
/-- A row of such. -/
theorem row_get {sec sd : List UInt8} {ly tr g n c : Nat} {A : Option Addr} {w : World} {S : Nat → Prop} (h : Sl (hE sec sd ly tr g) w S A n c) {i : Nat} (hi : i < n) :
    ∃ b off A' c', A = some ⟨b, off, none⟩ ∧ b < w.heap.size ∧ S b ∧ w.cell? ⟨b, off + i, none⟩ = some (.slice A' 32 c') ∧ Rd w A' 32 c' (sumT sec sd ly tr g i) ∧ ∀ a, A' = some a → S a.block := by
  obtain ⟨b, off, rfl, hb, hS, hc⟩ := h.at_ (by omega)
  obtain ⟨u, h1, A', n', c', rfl, h2, h3⟩ := hc i hi
  obtain rfl : n' = 32 := h2.len.symm.trans (sum_32 ..)
  exact ⟨b, off, A', c', rfl, hb, hS, h1, h2, fun a ha => h3 a (by omega) ha⟩
theorem tree_get {sec sd : List UInt8} {ly tr h n c : Nat} {A : Option Addr} {w : World} {S : Nat → Prop} (ht : Sl (treeE sec sd ly tr h) w S A n c) {g : Nat} (hg : g < n) :
    ∃ b off A' c', A = some ⟨b, off, none⟩ ∧ b < w.heap.size ∧ S b ∧ w.cell? ⟨b, off + g, none⟩ = some (.slice A' (2 ^ (h - g)) c') ∧ Sl (hE sec sd ly tr g) w S A' (2 ^ (h - g)) c' := by
  obtain ⟨b, off, rfl, hb, hS, hc⟩ := ht.at_ (by omega)
  obtain ⟨u, h1, A', c', rfl, h2⟩ := hc g hg
  exact ⟨b, off, A', c', rfl, hb, hS, h1, h2⟩
set_option maxHeartbeats 1000000 in
theorem root_any (sec sd : List UInt8) (ly tr h : Nat) (A : Option Addr) (c : Nat) (S : Nat → Prop) (w : World) (ht : Sl (treeE sec sd ly tr h) w S A (h + 1) c) :
    Calls Tryz.prog 26 #[.slice A (h + 1) c] w fun e w' => (∃ A' c', e = .returned (.slice A' 32 c') ∧ Rd w A' 32 c' (sumT sec sd ly tr h 0) ∧ ∀ a, A' = some a → S a.block) ∧ w = w' := by
  obtain ⟨b, off, A1, c1, rfl, hb, hS, h1, h2⟩ := tree_get ht (g := h) (by omega)
  rw [Nat.sub_self, Nat.pow_zero] at h1 h2
  obtain ⟨b2, off2, A2, c2, rfl, hb2, hS2, h3, h4, h5⟩ := row_get h2 (i := 0) (by omega)
  rw [Nat.add_zero] at h3
  have hm := ht.max
  have hcp := ht.cap
  unfold maxLen at hm
  obtain ⟨n, hn⟩ : ∃ n, n = h + 1 := ⟨_, rfl⟩
  rw [← hn] at hcp ⊢
  have t1 : (n : Int) - 1 = (h : Int) := by omega
  have t2 : (h : Int) < (n : Int) := by omega
  have t3 : h < n := by omega
  have H4 := Lib.hid h4
  have H5 := Lib.hid h5
  clear ht h2 h4 h5 hn hb hb2 hS hS2
  go_enter Tryz.func26, Tryz.ntmps26
  go_wp2
  go_ret
  exact ⟨⟨A2, c2, rfl, H4.out, H5.out⟩, rfl⟩
theorem xor_one (p : Nat) : p ^^^ 1 = sib p := by
  have h1 : (p ^^^ 1) / 2 = p / 2 := by
    have := Nat.shiftRight_xor_distrib (a := p) (b := 1) (i := 1)
    simpa [Nat.shiftRight_succ] using this
  have h2 : (p ^^^ 1) % 2 = (p + 1) % 2 := by
    have h := Nat.testBit_xor p 1 0
    simp only [Nat.testBit_zero] at h
    by_cases h1 : p % 2 = 1 <;> by_cases h2 : (p ^^^ 1) % 2 = 1 <;> simp [h1, h2] at h <;> omega
  unfold sib
  split <;> omega
theorem sib_lt {p n : Nat} (h : p < 2 ^ (n + 1)) : sib p < 2 ^ (n + 1) := by
  rw [Nat.pow_succ] at h ⊢
  unfold sib
  split <;> omega
theorem u32_xor_one (p : Nat) (h : p < 4294967296) : bits .xor .u32 (p : Int) 1 = (sib p : Int) := by
  have := u32_xor_nat p 1 h (by omega)
  rw [xor_one] at this
  exact this
/-- The rows of a way, as elements. -/
abbrev wayE (sec sd : List UInt8) (ly tr q : Nat) : El := rowE fun g => sumT sec sd ly tr g (sib (q / 2 ^ g))
theorem get_some0 {vs : List Value} {q n : Nat} (h : vs.length = n) (hq : q < n) : ∃ v, vs[q]? = some v := ⟨_, List.getElem?_eq_getElem (by omega)⟩
set_option maxHeartbeats 2000000 in
/-- The function value that tells a tree's sum. -/
theorem way1_any (sec sd : List UInt8) (ly tr h g i bt : Nat) (hg : g < h + 1) (hi : i < 2 ^ (h - g)) (A : Option Addr) (c : Nat) (S : Nat → Prop) (w : World) (hb : Bk w bt 54 #[.slice A (h + 1) c]) (ht : Sl (treeE sec sd ly tr h) w S A (h + 1) c) :
    Calls Tryz.prog 63 #[.int .i64 (g : Int), .int .u32 (i : Int), .pointer (some ⟨bt, 0, none⟩)] w fun e w' => (∃ A' c', e = .returned (.slice A' 32 c') ∧ Rd w' A' 32 c' (sumT sec sd ly tr g i) ∧ ∀ a, A' = some a → S a.block) ∧ w = w' := by
  have hm := ht.max
  obtain ⟨b, off, A1, c1, rfl, hbk, hS, h1, h2⟩ := tree_get ht (g := g) (by omega)
  obtain ⟨b2, off2, A2, c2, rfl, hb2, hS2, h3, h4, h5⟩ := row_get h2 hi
  have k0 := hb.cell 0
  obtain ⟨n, hn⟩ : ∃ n, n = h + 1 := ⟨_, rfl⟩
  rw [← hn] at k0
  obtain ⟨m, hm2⟩ : ∃ m, m = 2 ^ (h - g) := ⟨_, rfl⟩
  rw [← hm2] at h1 hi
  simp at k0
  have t1 : (g : Int) < (n : Int) := by omega
  have t2 : (i : Int) < (m : Int) := by omega
  have t3 : g < n := by omega
  have H4 := Lib.hid h4
  have H5 := Lib.hid h5
  clear ht h2 h4 h5 hn hb hb2 hS hS2 hbk hm2 hm
  go_enter Tryz.func63, Tryz.ntmps63
  go_wp2
  go_ret
  exact ⟨⟨A2, c2, rfl, H4.out, H5.out⟩, rfl⟩
set_option maxHeartbeats 4000000 in
theorem cway_any (sec sd : List UInt8) (ly tr h q bt : Nat) (hq : q < 2 ^ h) (hh : h ≤ 20) (A : Option Addr) (c : Nat) (S : Nat → Prop) (w : World) (hb : Bk w bt 54 #[.slice A (h + 1) c]) (ht : Sl (treeE sec sd ly tr h) w S A (h + 1) c) :
    Calls Tryz.prog 62 #[.int .u32 (q : Int), .int .i64 (h : Int), .func (.func 63) #[] #[.pointer (some ⟨bt, 0, none⟩)]] w fun e w' => ∃ A' c' vs, e = .returned (.slice A' h c') ∧ w'.ownsRow w.heap.size 24 1 (.slice A' h c') h vs ∧ (∀ j, j < h → ∃ u, vs[j]? = some u ∧ wayE sec sd ly tr q w' S j u) ∧ Below w.heap.size w w' := by
  obtain ⟨i0, hi, hz0, hz1, hz2⟩ := info_parts Tryz.infoRows
  have HI := Lib.hid hi
  have HT := Lib.hid ht
  have HB := Lib.hid hb
  have HQ := Lib.hid hq
  have hq2 : q < 4294967296 := Nat.lt_of_lt_of_le hq (Nat.le_trans (Nat.pow_le_pow_right (by omega) hh) (by decide))
  obtain ⟨L0, hL0⟩ : ∃ L0, w.heap.size = L0 := ⟨_, rfl⟩
  have e0 : wrap64 (h : Int) = (h : Int) := by unfold wrap64; omega
  clear ht hb hq hi
  go_enter Tryz.func62, Tryz.ntmps62
  go_wp2_with (at_make; refine wpList_make_full _ rfl _ _ 61 rfl w.heap.size 24 i0 (.slice none 0 0) 1 Tryz.underlying61 HI.out hz0 hz1 _ _ _ _ h rfl rfl rfl rfl ?b2 ?b3 (Nat.le_refl _) ?_)
  case b2 => rw [hz2]; omega
  case b3 => unfold maxLen; omega
  intro w1 o1 g1
  have hn1 : Below w.heap.size w w1 := (Below.refl _ _).grown g1 (Nat.le_refl _) (fun k h => by cases h)
  obtain ⟨vs0, hv0⟩ : ∃ vs0 : List Value, w1.ownsRow L0 24 1 (.slice (some ⟨L0, 0, none⟩) h h) h vs0 := ⟨_, o1⟩
  have O1 := Lib.hid hv0
  have N1 := Lib.hid hn1
  have HL0 := Lib.hid hL0
  clear o1 g1 hv0 hn1 hL0
  go_wp2
  go_loopw [13] (fun i wr => ∃ (j : Nat) (vs : List Value), j ≤ h ∧ i = .int .i64 (j : Int) ∧ wr.ownsRow L0 24 1 (.slice (some ⟨L0, 0, none⟩) h h) h vs ∧ (∀ k, k < j → ∃ u, vs[k]? = some u ∧ wayE sec sd ly tr q w (fun b => S b ∧ b < L0) k u) ∧ Below w.heap.size w wr)
    (fun i _ => h - (intOf i).toNat)
  case atStart => exact ⟨0, vs0, Nat.zero_le _, rfl, O1.out, fun k hk => absurd hk (by omega), N1.out⟩
  case round =>
    obtain ⟨j, vs, hj, rfl, hown, hel, hbel⟩ := hrel
    by_cases hlt : j < h
    · have hi1 : sib (q / 2 ^ j) < 2 ^ (h - j) := by
        obtain ⟨m, hm⟩ : ∃ m, h - j = m + 1 := ⟨h - j - 1, by omega⟩
        rw [hm]
        refine sib_lt ?_
        rw [← hm]
        refine (Nat.div_lt_iff_lt_mul (Nat.two_pow_pos j)).2 ?_
        rw [← Nat.pow_add, show h - j + j = h by omega]
        exact HQ.out
      have W1 := Lib.hid (way1_any sec sd ly tr h j (sib (q / 2 ^ j)) bt (by omega) hi1 A c (fun b => S b ∧ b < L0) wr (HB.out.below hbel HB.out.lt) (by
        have := ((HT.out.lt (treeE_fp _ _ _ _ _)).below (treeE_fp _ _ _ _ _) hbel)
        rw [HL0.out] at this
        exact this))
      obtain ⟨p, hp⟩ : ∃ p : Nat, p = q / 2 ^ j := ⟨_, rfl⟩
      have hp2 : p ≤ q := by rw [hp]; exact Nat.div_le_self _ _
      have hx := u32_xor_one p (by omega)
      rw [← hp] at W1
      obtain ⟨s, hs⟩ : ∃ s, s = sib p := ⟨_, rfl⟩
      rw [← hs] at W1 hx
      have t0 : (j : Int) < (h : Int) := by omega
      have e3 : (q : Int) / 2 ^ j = (p : Int) := by rw [hp]; simp
      have HEW := Lib.hid (show ∀ (X : World) (A' : Option Addr) (c' : Nat), X = wr → Rd X A' 32 c' (sumT sec sd ly tr j s) → (∀ a, A' = some a → S a.block ∧ a.block < L0) → wayE sec sd ly tr q w (fun b => S b ∧ b < L0) j (.slice A' 32 c') from by
        rintro X A' c' rfl hr hS
        refine ⟨A', 32, c', rfl, ?_, fun a _ ha => hS a ha⟩
        show Rd w A' 32 c' (sumT sec sd ly tr j (sib (q / 2 ^ j)))
        rw [← hp, ← hs]
        refine ⟨hr.len, hr.cap, hr.max, hr.nil, fun h0 => ?_⟩
        obtain ⟨b, off, e, hb, hc⟩ := hr.at_ h0
        obtain ⟨_, hlt2⟩ := hS _ e
        simp only at hlt2
        have hbw : b < w.heap.size := by rw [HL0.out]; exact hlt2
        exact ⟨b, off, e, hbw, fun k hk => (hbel.cell (p := ⟨b, off + k, none⟩) hbw).symm.trans (hc k hk)⟩)
      have HO := Lib.hid hown
      have HE := Lib.hid hel
      have HBL := Lib.hid hbel
      have hc := hown.cellAt j (by omega)
      have hf := hown.frozenAt j
      have hst := hown.stored j
      obtain ⟨v2, hv2⟩ := get_some0 (vs := vs) (n := h) (by have := hown.1; omega) hlt
      rw [hv2] at hc
      have HST := Lib.hid hst
      have HVL := Lib.hid (show vs.length = h by have := hown.1; omega)
      clear hown hel hbel hs hp hp2 hi1 hst
      go_wp2_with (go_at_call 63; ((with_reducible refine W1.out.mono ?_); rintro e w2 ⟨⟨A2, c2, rfl, r2, s2⟩, rfl⟩; have EL := Lib.hid (HEW.out _ A2 c2 rfl r2 s2); clear r2 s2))
      go_roundw
      case rel =>
        refine ⟨j + 1, vs.set j (.slice A2 32 c2), by omega, by go_num, (HST.out _).1, fun k hk => ?_, HBL.out.setCell (by show w.heap.size ≤ L0; rw [HL0.out]; exact Nat.le_refl _) _⟩
        by_cases e : k = j
        · subst e
          exact ⟨_, by rw [List.getElem?_set_self (by have := HVL.out; omega)], EL.out⟩
        · obtain ⟨u, h2, h3⟩ := HE.out k (by omega)
          exact ⟨u, by rw [List.getElem?_set_ne (Ne.symm e)]; exact h2, h3⟩
      case measure => simp [intOf]; omega
    · obtain rfl : j = h := by omega
      have t0 : ¬ (j : Int) < (j : Int) := by omega
      go_wp2
      go_ret
      exact ⟨_, _, rfl, vs, by rw [HL0.out]; exact hown, fun k hk => by
        obtain ⟨u, h1, h2⟩ := hel k hk
        exact ⟨u, h1, (rowE_fp _).weak ((rowE_fp _).keep h2 hbel.size fun b hb _ => hbel.block b (by rw [HL0.out]; exact hb.2)) fun b hb => hb.1⟩, hbel⟩
set_option maxHeartbeats 2000000 in
theorem way_any (sec sd : List UInt8) (ly tr h q : Nat) (hq : q < 2 ^ h) (hh : h ≤ 20) (A : Option Addr) (c : Nat) (S : Nat → Prop) (w : World) (ht : Sl (treeE sec sd ly tr h) w S A (h + 1) c) :
    Calls Tryz.prog 29 #[.slice A (h + 1) c, .int .u32 (q : Int)] w fun e w' => ∃ A' c' vs, e = .returned (.slice A' h c') ∧ w'.ownsRow w.heap.size 24 1 (.slice A' h c') h vs ∧ (∀ j, j < h → ∃ u, vs[j]? = some u ∧ wayE sec sd ly tr q w' S j u) ∧ Below w.heap.size w w' := by
  have hmf : ∀ (fn : Fn) (first cap : Array Value) (w : World), (Instr.makeFunc fn first cap).run Tryz.prog w = .ok (.func fn first cap) w := fun _ _ _ _ => rfl
  obtain ⟨b, hb⟩ : ∃ b, w.heap.size = b := ⟨_, rfl⟩
  obtain ⟨w0, hw0⟩ : ∃ w0, w.alloc (.cells #[.slice A (h + 1) c] 54) = w0 := ⟨_, rfl⟩
  have B0 := Lib.hid (show Below w.heap.size w w0 by rw [← hw0]; exact (Below.refl _ _).alloc (Nat.le_refl _) _)
  have T0 := show Bk w0 b 54 #[.slice A (h + 1) c] by rw [← hw0]; exact Bk.newAt _ _ _ _ hb
  have WC := Lib.hid (cway_any sec sd ly tr h q b hq hh A c S w0 T0 (ht.below (treeE_fp _ _ _ _ _) B0.out))
  obtain ⟨n, hn⟩ : ∃ n, n = h + 1 := ⟨_, rfl⟩
  have t1 : (n : Int) - 1 = (h : Int) := by omega
  have k0 : w0.cell? ⟨b, 0, none⟩ = some (.slice A n c) := by rw [hn]; exact T0.cell 0
  rw [← hn] at hw0 ⊢
  have e1 : wrap64 ((n : Int) - 1) = (h : Int) := by unfold wrap64; omega
  have e2 : wrap64 (h : Int) = (h : Int) := by unfold wrap64; omega
  have e3 : IntKind.i64.wrap ((n : Int) - 1) = (h : Int) := by rw [IntKind.wrap_i64]; omega
  have e4 : IntKind.i64.wrap (h : Int) = (h : Int) := by rw [IntKind.wrap_i64]; omega
  clear hn T0 ht
  go_enter Tryz.func29, Tryz.ntmps29
  go_upto_region 1 with (fail)
  clear hw0
  go_wp2_with (go_at_call 62; ((with_reducible refine WC.out.mono ?_); rintro e w1 ⟨A1, c1, vs, rfl, o1, el1, b1⟩; have O1 := Lib.hid o1; have EL := Lib.hid el1; have B1 := Lib.hid b1; clear o1 el1 b1))
  go_ret
  exact ⟨A1, c1, vs, rfl, own_base O1.out B0.out.size, EL.out, B0.out.trans (B1.out.mono B0.out.size)⟩
end Go.Proofs.YtkpfppiedadmbaaGreatDoor.S16
