/-
  Texts put together: WpR8. No statement is proved here.
-/
import Derived.Test.YtkpfppiedadmbaaGreatDoorWo11

/-
  What the document's own sum of a leaf of layer 15 does. No statement is proved here.
-/
namespace Go.Proofs.YtkpfppiedadmbaaGreatDoor.S15
set_option linter.unusedSimpArgs false
set_option linter.unusedVariables false
set_option maxRecDepth 1024
open Go.RowKit

/-- The address of a sum of two. -/
abbrev two (D : Ad) (g i : Nat) : Ad := { D with kind := 1, b := g, c := i }
theorem next_get (sd : List UInt8) (D : Ad) (g : Nat) : ∀ (i : Nat) (l : List (List UInt8)) (j : Nat), 2 * j < l.length →
    (nextL sd D g i l)[j]?.getD [] = if 2 * j + 1 < l.length then hL sd (two D g (i + j)) (l[2 * j]?.getD []) (l[2 * j + 1]?.getD []) else l[2 * j]?.getD []
  | _, [], j, h => by simp at h
  | i, [x], j, h => by
    obtain rfl : j = 0 := by simp at h; omega
    simp [nextL]
  | i, x :: y :: t, 0, _ => by simp [nextL]
  | i, x :: y :: t, j + 1, h => by
    have e := next_get sd D g (i + 1) t j (by simp at h; omega)
    simp only [nextL, List.getElem?_cons_succ, List.length_cons, show 2 * (j + 1) = 2 * j + 1 + 1 by omega, show i + (j + 1) = i + 1 + j by omega]
    rw [e]
    by_cases h1 : 2 * j + 1 < t.length
    · rw [if_pos h1, if_pos (by omega)]
    · rw [if_neg h1, if_neg (by omega)]
theorem next_same (sd : List UInt8) (D : Ad) (p q r g : Nat) : ∀ (i : Nat) (l : List (List UInt8)), nextL sd { D with kind := p, b := q, c := r } g i l = nextL sd D g i l
  | _, [] => rfl
  | _, [x] => rfl
  | i, x :: y :: t => by simp only [nextL, next_same sd D p q r g (i + 1) t]
theorem leafS_same (sd : List UInt8) (D : Ad) (p q r : Nat) : ∀ (f g : Nat) (l : List (List UInt8)), leafS sd { D with kind := p, b := q, c := r } f g l = leafS sd D f g l
  | 0, _, _ => rfl
  | f + 1, g, l => by simp only [leafS, next_same, leafS_same sd D p q r f]
theorem take_next {l : List (List UInt8)} {j : Nat} (h : j < l.length) : l.take (j + 1) = l.take j ++ [l[j]?.getD []] := by
  rw [List.take_add_one, List.getElem?_eq_getElem h]
  rfl
/-- What a call gives: a row of 32 bytes that reads so. -/
def Gives32 (w : World) (xs : List UInt8) (e : Ending) (w' : World) : Prop := ∃ (A : Option Addr) (c : Nat), e = .returned (.slice A 32 c) ∧ Rd w' A 32 c xs ∧ Below w.heap.size w w'
theorem leafS_one (sd : List UInt8) (D : Ad) (x : List UInt8) : ∀ (f g : Nat), leafS sd D f g [x] = x
  | 0, _ => rfl
  | f + 1, g => by simp [leafS]
set_option maxHeartbeats 4000000 in
theorem rsum_one (As : Option Addr) (cs : Nat) (g : Nat) (D : Ad) (A : Option Addr) (c : Nat) (x : List UInt8) (w : World) (hr : RdBs w A 1 c [x]) (h32 : x.length = 32) :
    Calls Tryz.prog 77 #[.slice As 32 cs, adV D, .slice A 1 c, .int .u32 (g : Int)] w (Gives32 w x) := by
  obtain ⟨b, off, rfl, hb, hc⟩ := hr.at_ (by omega)
  obtain ⟨A', n', c', c0, r0⟩ := hc 0 (by omega)
  obtain rfl : 32 = n' := by have := r0.len; simp at this; rw [h32] at this; exact this
  have R0 := Lib.hid (show Rd w A' 32 c' x from r0)
  simp only [Nat.add_zero] at c0
  unfold adV
  obtain ⟨w0, hw0⟩ : ∃ w0, w.alloc (.cells (adA D) 76) = w0 := ⟨_, rfl⟩
  have B0 := Lib.hid (show Below w.heap.size w w0 by rw [← hw0]; exact (Below.refl _ _).alloc (Nat.le_refl _) _)
  have c1 := (B0.out.cell (p := ⟨b, off, none⟩) hb).trans c0
  clear hr r0 h32 hc
  go_enter Tryz.func77, Tryz.ntmps77
  go_upto_region 1 with (fail)
  clear hw0 c0
  go_wp2
  go_ret
  exact ⟨A', c', rfl, R0.out.below B0.out, B0.out⟩
theorem keep8 {w' : World} {G b o1 o2 : Nat} {T : TypeId} {D : Ad} {v1 v2 : Value} (h : Bk w' G T (adA D)) (h2 : w'.cell? ⟨b, o1, none⟩ = some v1 ∧ w'.cell? ⟨b, o2, none⟩ = some v2) : w'.cell? ⟨G, 0, none⟩ = some (.int .u32 (D.layer : Int)) ∧ w'.cell? ⟨G, 1, none⟩ = some (.int .u64 (D.tree : Int)) ∧ w'.cell? ⟨G, 2, none⟩ = some (.int .u32 (D.kind : Int)) ∧ w'.cell? ⟨G, 3, none⟩ = some (.int .u32 (D.a : Int)) ∧ w'.cell? ⟨G, 4, none⟩ = some (.int .u32 (D.b : Int)) ∧ w'.cell? ⟨G, 5, none⟩ = some (.int .u32 (D.c : Int)) ∧ w'.cell? ⟨b, o1, none⟩ = some v1 ∧ w'.cell? ⟨b, o2, none⟩ = some v2 := by
  obtain ⟨a, b, c, d, e, f⟩ := ad_cells h
  exact ⟨a, b, c, d, e, f, h2.1, h2.2⟩
set_option maxHeartbeats 4000000 in
theorem rsum_any15 (As : Option Addr) (cs : Nat) (sd : List UInt8) : ∀ (f g : Nat) (D : Ad) (hD : D.Ok) (A : Option Addr) (n c : Nat) (xss : List (List UInt8)) (w : World), Rd w As 32 cs sd → RdBs w A n c xss → (∀ r ∈ xss, r.length = 32) → 1 ≤ n → n ≤ 2 ^ f → f ≤ 7 → g + f < 4294967296 →
    Calls Tryz.prog 77 #[.slice As 32 cs, adV D, .slice A n c, .int .u32 (g : Int)] w (Gives32 w (leafS sd D f g xss)) := by
  intro f
  induction f with
  | zero =>
    intro g D hD A n c xss w hs hr h32 h1 h2 h7 hg
    obtain rfl : n = 1 := by simp at h2; omega
    have hl := hr.len
    obtain ⟨x, rfl⟩ : ∃ x, xss = [x] := by
      match xss, hl with
      | [x], _ => exact ⟨x, rfl⟩
    rw [leafS_one]
    exact rsum_one As cs g D A c x w hr (h32 x (by simp))
  | succ f ih =>
    intro g D hD A n c xss w hs hr h32 h1 h2 h7 hg
    by_cases hn1 : n = 1
    · subst hn1
      have hl := hr.len
      obtain ⟨x, rfl⟩ : ∃ x, xss = [x] := by
        match xss, hl with
        | [x], _ => exact ⟨x, rfl⟩
      rw [leafS_one]
      exact rsum_one As cs g D A c x w hr (h32 x (by simp))
    · have hl := hr.len
      have h128 : n ≤ 128 := Nat.le_trans h2 (Nat.pow_le_pow_right (by omega) h7)
      obtain ⟨N, hN⟩ : ∃ N, N = nextL sd D g 0 xss := ⟨_, rfl⟩
      have NL := Lib.hid (show N.length = (n + 1) / 2 by rw [hN, next_len, hl])
      have N32 := Lib.hid (show ∀ r ∈ N, r.length = 32 by rw [hN]; exact next_rows sd D g 0 xss h32)
      have NG := Lib.hid (show ∀ j, 2 * j < n → N[j]?.getD [] = if 2 * j + 1 < n then hL sd (two D g j) (xss[2 * j]?.getD []) (xss[2 * j + 1]?.getD []) else xss[2 * j]?.getD [] by
        intro j hj
        rw [hN, next_get sd D g 0 xss j (by omega), Nat.zero_add, hl])
      have HLF := Lib.hid (show leafS sd D (f + 1) g xss = leafS sd D f (g + 1) N by rw [leafS, if_neg (by omega), hN])
      have hle : N.length ≤ 2 ^ f := by
        have e := NL.out
        have e1 : 2 ^ (f + 1) = 2 * 2 ^ f := by rw [Nat.pow_succ, Nat.mul_comm]
        omega
      have hlo : 1 ≤ N.length := by have e := NL.out; omega
      have IH := Lib.hid (fun (D' : Ad) (hD' : D'.Ok) (A : Option Addr) (c : Nat) (w : World) (h1 : Rd w As 32 cs sd) (h2 : RdBs w A N.length c N) => ih (g + 1) D' hD' A N.length c N w h1 h2 N32.out hlo hle (by omega) (by omega))
      clear hle hlo
      have HHA := Lib.hid (fun (X : World) (j : Nat) (hj : j < 128) (Ax : Option Addr) (cx : Nat) (x : List UInt8) (Ay : Option Addr) (cy : Nat) (y : List UInt8) (hs : Rd X As 32 cs sd) (hx : Rd X Ax 32 cx x) (hy : Rd X Ay 32 cy y) => rh_any (two D g j) ⟨hD.layer, hD.tree, by show 1 < _; omega, hD.a, by show g < _; omega, by show j < _; omega⟩ As cs sd Ax cx x Ay cy y X hs hx hy)
      have X32 := Lib.hid (show ∀ j, j < n → (xss[j]?.getD []).length = 32 by
        intro j hj
        rw [List.getElem?_eq_getElem (by omega)]
        exact h32 _ (List.getElem_mem _))
      obtain ⟨b, off, rfl, hb, hc⟩ := hr.at_ (by omega)
      have HC := Lib.hid hc
      have HR := Lib.hid hr
      have HS := Lib.hid hs
      have HD := Lib.hid hD
      rw [HLF.out]
      clear hN ih hc hr hs h32 HLF hD h2 hl
      unfold adV at *
      obtain ⟨G, hG⟩ : ∃ G, G = w.heap.size := ⟨_, rfl⟩
      have HG := Lib.hid hG
      have hnn : ((n : Int) == 1) = false := by simp; omega
      obtain ⟨i0, hi, hz0, hz1, hz2⟩ := info_parts Tryz.infoRows
      have HI := Lib.hid hi
      clear hi
      go_enter Tryz.func77, Tryz.ntmps77
      go_upto_region 1 with (fail)
      obtain ⟨w0, hw0⟩ : ∃ w0, w.alloc (.cells (adA D) 76) = w0 := ⟨_, rfl⟩
      have hG0 : Bk w0 G 76 (adA D) := by rw [← hw0, hG]; exact Bk.new _ _ _
      have hB0 : Below w.heap.size w w0 := by rw [← hw0]; exact (Below.refl _ _).alloc (Nat.le_refl _) _
      rw [hw0, ← hG]
      rw [← hG] at hB0 hb
      clear hw0 hG
      go_wp2_with (fail)
      go_loopw [9, 10] (fun nx i wr => ∃ (j : Nat) (vs : List Value) (p q r : Nat), 2 * j ≤ n + 1 ∧ i = .int .i64 ((2 * j : Nat) : Int) ∧ Rows wr (G + 1) nx j vs (N.take j) ∧ Bk wr G 76 (adA { D with kind := p, b := q, c := r }) ∧ p < 4294967296 ∧ q < 4294967296 ∧ r < 4294967296 ∧ Below G w wr) (fun _ i _ => n - (intOf i).toNat)
      case atStart => exact ⟨0, [], D.kind, D.b, D.c, by omega, rfl, Rows.nil_ _ _, hG0, HD.out.kind, HD.out.b, HD.out.c, hB0⟩
      case round =>
        clear hG0 hB0
        obtain ⟨j, vs, p, q, r, hj, rfl, hrows, hbk, hp, hq, hr, hB⟩ := hrel
        obtain ⟨Av, cv, rfl⟩ := hrows.form
        have hgl := hbk.lt
        have hjn := NL.out
        obtain ⟨t, ht⟩ : ∃ t, t = 2 * j := ⟨_, rfl⟩
        rw [← ht]
        by_cases hlt : t < n
        · obtain ⟨A1, n1, c1, k1, r1⟩ := HC.out t hlt
          obtain rfl : 32 = n1 := by have e1 := r1.len; rw [X32.out t hlt] at e1; exact e1
          have k1' := (hB.cell (p := ⟨b, off + t, none⟩) hb).trans k1
          have R1 := Lib.hid r1
          have T0 : (t : Int) < (n : Int) := by omega
          have OLD : ∀ a, A1 = some a → (Value.slice Av j cv).ownBlock ≠ some a.block := hrows.old (w0 := w) r1 (by omega) (by have := HG.out; omega)
          by_cases hlast : t + 1 = n
          · have T1 : ((t : Int) + 1 == (n : Int)) = true := by simp; omega
            have HNX := Lib.hid (show N.take (j + 1) = N.take j ++ [xss[t]?.getD []] by
              rw [take_next (by omega), NG.out j (by omega), if_neg (by omega), ht])
            have HR1 := Lib.hid hrows
            have HB1 := Lib.hid hB
            have HK1 := Lib.hid hbk
            have HJ := Lib.hid ht
            clear ht hrows hB hbk k1 r1
            go_wp2_with (at_builtin; refine wpList_append_lies _ rfl (.tmp 28) (.tmp 33) 61 rfl (G + 1) 24 i0 _ 1 24 Tryz.underlying61 HI.out hz0 hz1 hz2 rfl (by omega) (.slice Av j cv) j vs rfl (HR1.out.alloc _).own ⟨wr.heap.size, 0, none⟩ 1 1 [.slice A1 32 c1] rfl (by rfl) (World.news_of_block (heap_alloc_new wr _)) (by simp [Value.oneCell']) (by omega) (by simp only [maxLen]; omega) (by omega) (by simp; omega) (wr.heap.size + 1) (by simp) ?_; intro gg cap w3 hown3 hgrow hat hltg)
            go_roundw
            case rel =>
              have e1 := HJ.out
              have e2 : Below w.heap.size w wr := HG.out ▸ HB1.out
              refine ⟨j + 1, vs ++ [.slice A1 32 c1], p, q, r, by omega, by show Value.int .i64 _ = Value.int .i64 _; congr 1; omega, ?_, (HK1.out.alloc _).only hgrow (fun e => by have := (HR1.out.own.lt G e.symm).1; omega), hp, hq, hr, (HB1.out.alloc (by omega) _).grown hgrow (by simp; omega) (fun k hk => by have := (HR1.out.own.lt k hk).1; omega)⟩
              rw [HNX.out]
              exact (HR1.out.alloc _).push hown3 hgrow (by simpa using hat) ((R1.out.below e2).alloc _) OLD
            case measure => simp [intOf]; omega
          · have T1 : ((t : Int) + 1 == (n : Int)) = false := by simp; omega
            obtain ⟨A2, n2, c2, k2, r2⟩ := HC.out (t + 1) (by omega)
            obtain rfl : 32 = n2 := by have e1 := r2.len; rw [X32.out (t + 1) (by omega)] at e1; exact e1
            have k2' := (hB.cell (p := ⟨b, off + (t + 1), none⟩) hb).trans k2
            have R2 := Lib.hid r2
            have HNX := Lib.hid (show N.take (j + 1) = N.take j ++ [hL sd (two D g j) (xss[t]?.getD []) (xss[t + 1]?.getD [])] by
              rw [take_next (by omega), NG.out j (by omega), if_pos (by omega), ht])
            have HJ := Lib.hid ht
            have f2 : wr.cell? ⟨G, 2, none⟩ = some (.int .u32 (p : Int)) := hbk.cell 2
            have z2 := hbk.frozen 2
            have K1 := Lib.hid k1
            have K2 := Lib.hid k2
            clear ht k1 r1 k2 r2
            go_upto_region 10 with (fail)
            obtain ⟨w1, hw1⟩ : ∃ w1, wr.setCell ⟨G, 2, none⟩ (.int .u32 1) = w1 := ⟨_, rfl⟩
            first
              | rw [hw1]
              | (trace_state; fail)
            have hb1 : Bk w1 G 76 (adA { D with kind := 1, b := q, c := r }) := by rw [← hw1]; exact hbk.put 2 _
            have hB1 : Below G w w1 := by rw [← hw1]; exact hB.setCell (Nat.le_refl _) _
            have hr1 : Rows w1 (G + 1) (.slice Av j cv) j vs (N.take j) := by rw [← hw1]; exact hrows.setAd hbk (by omega) 2 _
            clear hw1 hbk hB hrows f2 z2 k1' k2' hgl
            have f4 : w1.cell? ⟨G, 4, none⟩ = some (.int .u32 (q : Int)) := hb1.cell 4
            have z4 := hb1.frozen 4
            go_upto_region 11 with (fail)
            obtain ⟨w2, hw2⟩ : ∃ w2, w1.setCell ⟨G, 4, none⟩ (.int .u32 (g : Int)) = w2 := ⟨_, rfl⟩
            first
              | rw [hw2]
              | (trace_state; fail)
            have hb2 : Bk w2 G 76 (adA { D with kind := 1, b := g, c := r }) := by rw [← hw2]; exact hb1.put 4 _
            have hB2 : Below G w w2 := by rw [← hw2]; exact hB1.setCell (Nat.le_refl _) _
            have hr2 : Rows w2 (G + 1) (.slice Av j cv) j vs (N.take j) := by rw [← hw2]; exact hr1.setAd hb1 (by omega) 4 _
            clear hw2 hb1 hB1 hr1 f4 z4
            have f5 : w2.cell? ⟨G, 5, none⟩ = some (.int .u32 (r : Int)) := hb2.cell 5
            have z5 := hb2.frozen 5
            have e5 : (t : Int) / 2 = (j : Int) := by have := HJ.out; omega
            go_upto_region 12 with (fail)
            obtain ⟨w3, hw3⟩ : ∃ w3, w2.setCell ⟨G, 5, none⟩ (.int .u32 (j : Int)) = w3 := ⟨_, rfl⟩
            first
              | rw [hw3]
              | (trace_state; fail)
            have hb3 : Bk w3 G 76 (adA (two D g j)) := by rw [← hw3]; exact hb2.put 5 _
            have hB3 : Below G w w3 := by rw [← hw3]; exact hB2.setCell (Nat.le_refl _) _
            have hr3 : Rows w3 (G + 1) (.slice Av j cv) j vs (N.take j) := by rw [← hw3]; exact hr2.setAd hb2 (by omega) 5 _
            clear hw3 hb2 hB2 hr2 f5 z5 e5
            have HG3 := Lib.hid hb3
            have HB3 := Lib.hid hB3
            have HR3 := Lib.hid hr3
            have RC := Lib.hid (show ∀ X, Below G w X → X.cell? ⟨b, off + t, none⟩ = some (.slice A1 32 c1) ∧ X.cell? ⟨b, off + (t + 1), none⟩ = some (.slice A2 32 c2) by
              intro X hX
              exact ⟨(hX.cell (p := ⟨b, off + t, none⟩) hb).trans K1.out, (hX.cell (p := ⟨b, off + (t + 1), none⟩) hb).trans K2.out⟩)
            have T2 : (t : Int) + 1 < (n : Int) := by omega
            have T3 : (0 : Int) ≤ (t : Int) + 1 := by omega
            have T4 : IntKind.i64.wrap ((t : Int) + 1) = (t : Int) + 1 := by rw [IntKind.wrap_i64]; omega
            have T5 : ((t : Int) + 1).toNat = t + 1 := by omega
            have BG := Lib.hid (show ∀ X, Below G w X → Below w.heap.size w X by intro X hX; exact HG.out ▸ hX)
            have HHH := Lib.hid (fun (X : World) (hX : Below G w X) => show Calls Tryz.prog 51 #[.slice As 32 cs, .agg #[.int .u32 (D.layer : Int), .int .u64 (D.tree : Int), .int .u32 1, .int .u32 (D.a : Int), .int .u32 (g : Int), .int .u32 (j : Int)], .slice A1 32 c1, .slice A2 32 c2] X (New X.heap.size X (hL sd (two D g j) (xss[t]?.getD []) (xss[t + 1]?.getD []))) from HHA.out X j (by omega) A1 c1 _ A2 c2 _ (HS.out.below (BG.out X hX)) (R1.out.below (BG.out X hX)) (R2.out.below (BG.out X hX)))
            have HLZ := Lib.hid (show (hL sd (two D g j) (xss[t]?.getD []) (xss[t + 1]?.getD [])).length = 32 from num_len _ _ _)
            generalize hL sd (two D g j) (xss[t]?.getD []) (xss[t + 1]?.getD []) = zs at HHH HLZ HNX
            clear hb3 hB3 hr3
            (go_region_held3 (fun w' => w'.cell? ⟨G, 0, none⟩ = some (.int .u32 (D.layer : Int)) ∧ w'.cell? ⟨G, 1, none⟩ = some (.int .u64 (D.tree : Int)) ∧ w'.cell? ⟨G, 2, none⟩ = some (.int .u32 1) ∧ w'.cell? ⟨G, 3, none⟩ = some (.int .u32 (D.a : Int)) ∧ w'.cell? ⟨G, 4, none⟩ = some (.int .u32 (g : Int)) ∧ w'.cell? ⟨G, 5, none⟩ = some (.int .u32 (j : Int)) ∧ w'.cell? ⟨b, off + t, none⟩ = some (.slice A1 32 c1) ∧ w'.cell? ⟨b, off + (t + 1), none⟩ = some (.slice A2 32 c2))
              (first
                | exact keep8 G5.out (RC.out _ B5.out)
                | exact keep8 (G4.out.alloc _) (RC.out _ A4B.out)
                | exact keep8 G4.out (RC.out _ B4.out)
                | exact keep8 HG3.out (RC.out _ HB3.out))
              (first
                | (go_at_call 51; ((with_reducible refine (HHH.out _ HB3.out.drew).mono ?_)); rintro e w4 ⟨A4, n4, c4, rfl, q4, b4⟩; obtain rfl : n4 = 32 := (own_len q4).symm.trans (HLZ.out); have O4 := Lib.hid q4; have B4 := Lib.hid ((HB3.out.drew).trans (b4.mono (Nat.le_of_lt HG3.out.lt))); have G4 := Lib.hid ((HG3.out.drew).below b4 (HG3.out.drew).lt); have R4 := Lib.hid ((HR3.out.drew).below b4); have A4B := Lib.hid (B4.out.alloc (Nat.le_of_lt G4.out.lt) (.cells #[.slice A4 32 c4] 24)); have L4 := Lib.hid (G4.out.lt); have W4 := Lib.hid (HR3.out.drew.newer q4); clear q4 b4)
                | (refine step_append_lies _ (by rfl) (.tmp 42) (.tmp 55) 61 (by rfl) (G + 1) 24 i0 _ 1 24 Tryz.underlying61 HI.out hz0 hz1 hz2 rfl (by omega) (.slice Av j cv) j vs (by rfl) (R4.out.alloc _).own ⟨w4.heap.size, 0, none⟩ 1 1 [.slice A4 32 c4] (by rfl) (by rfl) (World.news_of_block (heap_alloc_new w4 _)) (by simp [Value.oneCell']) (by omega) (by simp only [maxLen]; omega) (by omega) (by have := L4.out; simp; omega) (w4.heap.size + 1) (by simp) ?_; intro gg cap w5 hown5 hgrow5 hat5 hltg5; have G5 := Lib.hid ((G4.out.alloc _).only hgrow5 (fun e => by have := (R4.out.own.lt G e.symm).1; omega)); have B5 := Lib.hid (A4B.out.grown hgrow5 (by have := L4.out; simp; omega) (fun k hk => by have := (R4.out.own.lt k hk).1; omega)); have O5 := Lib.hid hown5; have W5 := Lib.hid hgrow5; have T5 := Lib.hid hat5; clear hown5 hgrow5 hat5 hltg5)
                | fail))
            go_wp2
            go_roundw
            case rel =>
              have e1 := HJ.out
              refine ⟨j + 1, vs ++ [.slice A4 32 c4], 1, g, j, by omega, by show Value.int .i64 _ = Value.int .i64 _; congr 1; omega, ?_, G5.out, by omega, by omega, by omega, B5.out⟩
              rw [HNX.out]
              exact (R4.out.alloc _).push O5.out W5.out (by simpa using T5.out) ((Rd.own O4.out).alloc _) W4.out
            case measure => simp [intOf]; omega
        · have T1 : ¬ (t : Int) < (n : Int) := by omega
          obtain rfl : j = N.length := by omega
          rw [List.take_length] at hrows
          have HRD := Lib.hid hrows.read
          have k0 : wr.cell? ⟨G, 0, none⟩ = some (.int .u32 (D.layer : Int)) := hbk.cell 0
          have k1 : wr.cell? ⟨G, 1, none⟩ = some (.int .u64 (D.tree : Int)) := hbk.cell 1
          have k2 : wr.cell? ⟨G, 2, none⟩ = some (.int .u32 (p : Int)) := hbk.cell 2
          have k3 : wr.cell? ⟨G, 3, none⟩ = some (.int .u32 (D.a : Int)) := hbk.cell 3
          have k4 : wr.cell? ⟨G, 4, none⟩ = some (.int .u32 (q : Int)) := hbk.cell 4
          have k5 : wr.cell? ⟨G, 5, none⟩ = some (.int .u32 (r : Int)) := hbk.cell 5
          have hBw : Below w.heap.size w wr := HG.out ▸ hB
          have hg1 : (g : Int) + 1 < 4294967296 := by omega
          have HB := Lib.hid hBw
          have HL := Lib.hid (show Calls Tryz.prog 77 #[.slice As 32 cs, .agg #[.int .u32 (D.layer : Int), .int .u64 (D.tree : Int), .int .u32 (p : Int), .int .u32 (D.a : Int), .int .u32 (q : Int), .int .u32 (r : Int)], .slice Av N.length cv, .int .u32 ((g : Int) + 1)] wr (Gives32 wr (leafS sd D f (g + 1) N)) from by
            have := IH.out { D with kind := p, b := q, c := r } ⟨HD.out.layer, HD.out.tree, hp, HD.out.a, hq, hr⟩ Av cv wr (HS.out.below hBw) HRD.out
            rw [leafS_same] at this
            exact this)
          obtain ⟨zs, hzs⟩ : ∃ zs, zs = leafS sd D f (g + 1) N := ⟨_, rfl⟩
          have EZ := Lib.hid hzs
          rw [← hzs] at HL
          clear hzs
          clear ht hrows hbk hB hBw hgl hjn hj
          go_wp2_with (go_at_call 77; ((with_reducible refine HL.out.mono ?_); rintro e w4 ⟨A4, c4, rfl, q4, b4⟩; have Q4 := Lib.hid q4; have N4 := Lib.hid b4; clear q4 b4))
          go_ret
          exact ⟨A4, c4, rfl, EZ.out ▸ Q4.out, HB.out.trans (N4.out.mono HB.out.size)⟩
end Go.Proofs.YtkpfppiedadmbaaGreatDoor.S15
