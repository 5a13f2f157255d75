/-
  Texts put together: WpR8, WpR9. No statement is proved here.
-/
import Derived.Test.YtnejepidbahjdaaDoorWm11

/-
  What the document's own sum of a leaf of layer 15 does. No statement is proved here.
-/
namespace Go.Proofs.YtnejepidbahjdaaDoor.S15
set_option linter.unusedSimpArgs false
set_option linter.unusedVariables false
set_option maxRecDepth 1024
open Go.RowKit

/-- The address of a sum of two. -/
abbrev two (D : Ad) (g i : Nat) : Ad := { D with kind := 1, b := g, c := i }
theorem next_get (sd : List UInt8) (D : Ad) (g : Nat) : ∀ (i : Nat) (l : List (List UInt8)) (j : Nat), 2 * j < l.length →
    (nextL sd D g i l)[j]?.getD [] = if 2 * j + 1 < l.length then hL sd (two D g (i + j)) (l[2 * j]?.getD []) (l[2 * j + 1]?.getD []) else l[2 * j]?.getD []
  | _, [], j, h => by simp at h
  | i, [x], j, h => by
    obtain rfl : j = 0 := by simp at h; omega
    simp [nextL]
  | i, x :: y :: t, 0, _ => by simp [nextL]
  | i, x :: y :: t, j + 1, h => by
    have e := next_get sd D g (i + 1) t j (by simp at h; omega)
    simp only [nextL, List.getElem?_cons_succ, List.length_cons, show 2 * (j + 1) = 2 * j + 1 + 1 by omega, show i + (j + 1) = i + 1 + j by omega]
    rw [e]
    by_cases h1 : 2 * j + 1 < t.length
    · rw [if_pos h1, if_pos (by omega)]
    · rw [if_neg h1, if_neg (by omega)]
theorem next_same (sd : List UInt8) (D : Ad) (p q r g : Nat) : ∀ (i : Nat) (l : List (List UInt8)), nextL sd { D with kind := p, b := q, c := r } g i l = nextL sd D g i l
  | _, [] => rfl
  | _, [x] => rfl
  | i, x :: y :: t => by simp only [nextL, next_same sd D p q r g (i + 1) t]
theorem leafS_same (sd : List UInt8) (D : Ad) (p q r : Nat) : ∀ (f g : Nat) (l : List (List UInt8)), leafS sd { D with kind := p, b := q, c := r } f g l = leafS sd D f g l
  | 0, _, _ => rfl
  | f + 1, g, l => by simp only [leafS, next_same, leafS_same sd D p q r f]
theorem take_next {l : List (List UInt8)} {j : Nat} (h : j < l.length) : l.take (j + 1) = l.take j ++ [l[j]?.getD []] := by
  rw [List.take_add_one, List.getElem?_eq_getElem h]
  rfl
/-- What a call gives: a row of 32 bytes that reads so. -/
def Gives32 (w : World) (xs : List UInt8) (e : Ending) (w' : World) : Prop := ∃ (A : Option Addr) (c : Nat), e = .returned (.slice A 32 c) ∧ Rd w' A 32 c xs ∧ Below w.heap.size w w'
theorem leafS_one (sd : List UInt8) (D : Ad) (x : List UInt8) : ∀ (f g : Nat), leafS sd D f g [x] = x
  | 0, _ => rfl
  | f + 1, g => by simp [leafS]
set_option maxHeartbeats 4000000 in
theorem rsum_one (As : Option Addr) (cs : Nat) (g : Nat) (D : Ad) (A : Option Addr) (c : Nat) (x : List UInt8) (w : World) (hr : RdBs w A 1 c [x]) (h32 : x.length = 32) :
    Calls Tryd.prog 24 #[.slice As 32 cs, adV D, .slice A 1 c, .int .u32 (g : Int)] w (Gives32 w x) := by
  obtain ⟨b, off, rfl, hb, hc⟩ := hr.at_ (by omega)
  obtain ⟨A', n', c', c0, r0⟩ := hc 0 (by omega)
  obtain rfl : 32 = n' := by have := r0.len; simp at this; rw [h32] at this; exact this
  have R0 := Lib.hid (show Rd w A' 32 c' x from r0)
  simp only [Nat.add_zero] at c0
  unfold adV
  obtain ⟨w0, hw0⟩ : ∃ w0, w.alloc (.cells (adA D) 47) = w0 := ⟨_, rfl⟩
  have B0 := Lib.hid (show Below w.heap.size w w0 by rw [← hw0]; exact (Below.refl _ _).alloc (Nat.le_refl _) _)
  have c1 := (B0.out.cell (p := ⟨b, off, none⟩) hb).trans c0
  clear hr r0 h32 hc
  go_enter Tryd.func24, Tryd.ntmps24
  go_upto_region 1 with (fail)
  clear hw0 c0
  go_wp2
  go_ret
  exact ⟨A', c', rfl, R0.out.below B0.out, B0.out⟩
theorem keep8 {w' : World} {G b o1 o2 : Nat} {T : TypeId} {D : Ad} {v1 v2 : Value} (h : Bk w' G T (adA D)) (h2 : w'.cell? ⟨b, o1, none⟩ = some v1 ∧ w'.cell? ⟨b, o2, none⟩ = some v2) : w'.cell? ⟨G, 0, none⟩ = some (.int .u32 (D.layer : Int)) ∧ w'.cell? ⟨G, 1, none⟩ = some (.int .u64 (D.tree : Int)) ∧ w'.cell? ⟨G, 2, none⟩ = some (.int .u32 (D.kind : Int)) ∧ w'.cell? ⟨G, 3, none⟩ = some (.int .u32 (D.a : Int)) ∧ w'.cell? ⟨G, 4, none⟩ = some (.int .u32 (D.b : Int)) ∧ w'.cell? ⟨G, 5, none⟩ = some (.int .u32 (D.c : Int)) ∧ w'.cell? ⟨b, o1, none⟩ = some v1 ∧ w'.cell? ⟨b, o2, none⟩ = some v2 := by
  obtain ⟨a, b, c, d, e, f⟩ := ad_cells h
  exact ⟨a, b, c, d, e, f, h2.1, h2.2⟩
set_option maxHeartbeats 4000000 in
theorem rsum_any15 (As : Option Addr) (cs : Nat) (sd : List UInt8) : ∀ (f g : Nat) (D : Ad) (hD : D.Ok) (A : Option Addr) (n c : Nat) (xss : List (List UInt8)) (w : World), Rd w As 32 cs sd → RdBs w A n c xss → (∀ r ∈ xss, r.length = 32) → 1 ≤ n → n ≤ 2 ^ f → f ≤ 7 → g + f < 4294967296 →
    Calls Tryd.prog 24 #[.slice As 32 cs, adV D, .slice A n c, .int .u32 (g : Int)] w (Gives32 w (leafS sd D f g xss)) := by
  intro f
  induction f with
  | zero =>
    intro g D hD A n c xss w hs hr h32 h1 h2 h7 hg
    obtain rfl : n = 1 := by simp at h2; omega
    have hl := hr.len
    obtain ⟨x, rfl⟩ : ∃ x, xss = [x] := by
      match xss, hl with
      | [x], _ => exact ⟨x, rfl⟩
    rw [leafS_one]
    exact rsum_one As cs g D A c x w hr (h32 x (by simp))
  | succ f ih =>
    intro g D hD A n c xss w hs hr h32 h1 h2 h7 hg
    by_cases hn1 : n = 1
    · subst hn1
      have hl := hr.len
      obtain ⟨x, rfl⟩ : ∃ x, xss = [x] := by
        match xss, hl with
        | [x], _ => exact ⟨x, rfl⟩
      rw [leafS_one]
      exact rsum_one As cs g D A c x w hr (h32 x (by simp))
    · have hl := hr.len
      have h128 : n ≤ 128 := Nat.le_trans h2 (Nat.pow_le_pow_right (by omega) h7)
      obtain ⟨N, hN⟩ : ∃ N, N = nextL sd D g 0 xss := ⟨_, rfl⟩
      have NL := Lib.hid (show N.length = (n + 1) / 2 by rw [hN, next_len, hl])
      have N32 := Lib.hid (show ∀ r ∈ N, r.length = 32 by rw [hN]; exact next_rows sd D g 0 xss h32)
      have NG := Lib.hid (show ∀ j, 2 * j < n → N[j]?.getD [] = if 2 * j + 1 < n then hL sd (two D g j) (xss[2 * j]?.getD []) (xss[2 * j + 1]?.getD []) else xss[2 * j]?.getD [] by
        intro j hj
        rw [hN, next_get sd D g 0 xss j (by omega), Nat.zero_add, hl])
      have HLF := Lib.hid (show leafS sd D (f + 1) g xss = leafS sd D f (g + 1) N by rw [leafS, if_neg (by omega), hN])
      have hle : N.length ≤ 2 ^ f := by
        have e := NL.out
        have e1 : 2 ^ (f + 1) = 2 * 2 ^ f := by rw [Nat.pow_succ, Nat.mul_comm]
        omega
      have hlo : 1 ≤ N.length := by have e := NL.out; omega
      have IH := Lib.hid (fun (D' : Ad) (hD' : D'.Ok) (A : Option Addr) (c : Nat) (w : World) (h1 : Rd w As 32 cs sd) (h2 : RdBs w A N.length c N) => ih (g + 1) D' hD' A N.length c N w h1 h2 N32.out hlo hle (by omega) (by omega))
      clear hle hlo
      have HHA := Lib.hid (fun (X : World) (j : Nat) (hj : j < 128) (Ax : Option Addr) (cx : Nat) (x : List UInt8) (Ay : Option Addr) (cy : Nat) (y : List UInt8) (hs : Rd X As 32 cs sd) (hx : Rd X Ax 32 cx x) (hy : Rd X Ay 32 cy y) => rh_any (two D g j) ⟨hD.layer, hD.tree, by show 1 < _; omega, hD.a, by show g < _; omega, by show j < _; omega⟩ As cs sd Ax cx x Ay cy y X hs hx hy)
      have X32 := Lib.hid (show ∀ j, j < n → (xss[j]?.getD []).length = 32 by
        intro j hj
        rw [List.getElem?_eq_getElem (by omega)]
        exact h32 _ (List.getElem_mem _))
      obtain ⟨b, off, rfl, hb, hc⟩ := hr.at_ (by omega)
      have HC := Lib.hid hc
      have HR := Lib.hid hr
      have HS := Lib.hid hs
      have HD := Lib.hid hD
      rw [HLF.out]
      clear hN ih hc hr hs h32 HLF hD h2 hl
      unfold adV at *
      obtain ⟨G, hG⟩ : ∃ G, G = w.heap.size := ⟨_, rfl⟩
      have HG := Lib.hid hG
      have hnn : ((n : Int) == 1) = false := by simp; omega
      obtain ⟨i0, hi, hz0, hz1, hz2⟩ := info_parts Tryd.infoRows
      have HI := Lib.hid hi
      clear hi
      go_enter Tryd.func24, Tryd.ntmps24
      go_upto_region 1 with (fail)
      obtain ⟨w0, hw0⟩ : ∃ w0, w.alloc (.cells (adA D) 47) = w0 := ⟨_, rfl⟩
      have hG0 : Bk w0 G 47 (adA D) := by rw [← hw0, hG]; exact Bk.new _ _ _
      have hB0 : Below w.heap.size w w0 := by rw [← hw0]; exact (Below.refl _ _).alloc (Nat.le_refl _) _
      rw [hw0, ← hG]
      rw [← hG] at hB0 hb
      clear hw0 hG
      go_wp2_with (fail)
      go_loopw [9, 10] (fun nx i wr => ∃ (j : Nat) (vs : List Value) (p q r : Nat), 2 * j ≤ n + 1 ∧ i = .int .i64 ((2 * j : Nat) : Int) ∧ Rows wr (G + 1) nx j vs (N.take j) ∧ Bk wr G 47 (adA { D with kind := p, b := q, c := r }) ∧ p < 4294967296 ∧ q < 4294967296 ∧ r < 4294967296 ∧ Below G w wr) (fun _ i _ => n - (intOf i).toNat)
      case atStart => exact ⟨0, [], D.kind, D.b, D.c, by omega, rfl, Rows.nil_ _ _, hG0, HD.out.kind, HD.out.b, HD.out.c, hB0⟩
      case round =>
        clear hG0 hB0
        obtain ⟨j, vs, p, q, r, hj, rfl, hrows, hbk, hp, hq, hr, hB⟩ := hrel
        obtain ⟨Av, cv, rfl⟩ := hrows.form
        have hgl := hbk.lt
        have hjn := NL.out
        obtain ⟨t, ht⟩ : ∃ t, t = 2 * j := ⟨_, rfl⟩
        rw [← ht]
        by_cases hlt : t < n
        · obtain ⟨A1, n1, c1, k1, r1⟩ := HC.out t hlt
          obtain rfl : 32 = n1 := by have e1 := r1.len; rw [X32.out t hlt] at e1; exact e1
          have k1' := (hB.cell (p := ⟨b, off + t, none⟩) hb).trans k1
          have R1 := Lib.hid r1
          have T0 : (t : Int) < (n : Int) := by omega
          have OLD : ∀ a, A1 = some a → (Value.slice Av j cv).ownBlock ≠ some a.block := hrows.old (w0 := w) r1 (by omega) (by have := HG.out; omega)
          by_cases hlast : t + 1 = n
          · have T1 : ((t : Int) + 1 == (n : Int)) = true := by simp; omega
            have HNX := Lib.hid (show N.take (j + 1) = N.take j ++ [xss[t]?.getD []] by
              rw [take_next (by omega), NG.out j (by omega), if_neg (by omega), ht])
            have HR1 := Lib.hid hrows
            have HB1 := Lib.hid hB
            have HK1 := Lib.hid hbk
            have HJ := Lib.hid ht
            clear ht hrows hB hbk k1 r1
            go_wp2_with (at_builtin; refine wpList_append_lies _ rfl (.tmp 28) (.tmp 33) 40 rfl (G + 1) 22 i0 _ 1 24 Tryd.underlying40 HI.out hz0 hz1 hz2 rfl (by omega) (.slice Av j cv) j vs rfl (HR1.out.alloc _).own ⟨wr.heap.size, 0, none⟩ 1 1 [.slice A1 32 c1] rfl (by rfl) (World.news_of_block (heap_alloc_new wr _)) (by simp [Value.oneCell']) (by omega) (by simp only [maxLen]; omega) (by omega) (by simp; omega) (wr.heap.size + 1) (by simp) ?_; intro gg cap w3 hown3 hgrow hat hltg)
            go_roundw
            case rel =>
              have e1 := HJ.out
              have e2 : Below w.heap.size w wr := HG.out ▸ HB1.out
              refine ⟨j + 1, vs ++ [.slice A1 32 c1], p, q, r, by omega, by show Value.int .i64 _ = Value.int .i64 _; congr 1; omega, ?_, (HK1.out.alloc _).only hgrow (fun e => by have := (HR1.out.own.lt G e.symm).1; omega), hp, hq, hr, (HB1.out.alloc (by omega) _).grown hgrow (by simp; omega) (fun k hk => by have := (HR1.out.own.lt k hk).1; omega)⟩
              rw [HNX.out]
              exact (HR1.out.alloc _).push hown3 hgrow (by simpa using hat) ((R1.out.below e2).alloc _) OLD
            case measure => simp [intOf]; omega
          · have T1 : ((t : Int) + 1 == (n : Int)) = false := by simp; omega
            obtain ⟨A2, n2, c2, k2, r2⟩ := HC.out (t + 1) (by omega)
            obtain rfl : 32 = n2 := by have e1 := r2.len; rw [X32.out (t + 1) (by omega)] at e1; exact e1
            have k2' := (hB.cell (p := ⟨b, off + (t + 1), none⟩) hb).trans k2
            have R2 := Lib.hid r2
            have HNX := Lib.hid (show N.take (j + 1) = N.take j ++ [hL sd (two D g j) (xss[t]?.getD []) (xss[t + 1]?.getD [])] by
              rw [take_next (by omega), NG.out j (by omega), if_pos (by omega), ht])
            have HJ := Lib.hid ht
            have f2 : wr.cell? ⟨G, 2, none⟩ = some (.int .u32 (p : Int)) := hbk.cell 2
            have z2 := hbk.frozen 2
            have K1 := Lib.hid k1
            have K2 := Lib.hid k2
            clear ht k1 r1 k2 r2
            go_upto_region 10 with (fail)
            obtain ⟨w1, hw1⟩ : ∃ w1, wr.setCell ⟨G, 2, none⟩ (.int .u32 1) = w1 := ⟨_, rfl⟩
            first
              | rw [hw1]
              | (trace_state; fail)
            have hb1 : Bk w1 G 47 (adA { D with kind := 1, b := q, c := r }) := by rw [← hw1]; exact hbk.put 2 _
            have hB1 : Below G w w1 := by rw [← hw1]; exact hB.setCell (Nat.le_refl _) _
            have hr1 : Rows w1 (G + 1) (.slice Av j cv) j vs (N.take j) := by rw [← hw1]; exact hrows.setAd hbk (by omega) 2 _
            clear hw1 hbk hB hrows f2 z2 k1' k2' hgl
            have f4 : w1.cell? ⟨G, 4, none⟩ = some (.int .u32 (q : Int)) := hb1.cell 4
            have z4 := hb1.frozen 4
            go_upto_region 11 with (fail)
            obtain ⟨w2, hw2⟩ : ∃ w2, w1.setCell ⟨G, 4, none⟩ (.int .u32 (g : Int)) = w2 := ⟨_, rfl⟩
            first
              | rw [hw2]
              | (trace_state; fail)
            have hb2 : Bk w2 G 47 (adA { D with kind := 1, b := g, c := r }) := by rw [← hw2]; exact hb1.put 4 _
            have hB2 : Below G w w2 := by rw [← hw2]; exact hB1.setCell (Nat.le_refl _) _
            have hr2 : Rows w2 (G + 1) (.slice Av j cv) j vs (N.take j) := by rw [← hw2]; exact hr1.setAd hb1 (by omega) 4 _
            clear hw2 hb1 hB1 hr1 f4 z4
            have f5 : w2.cell? ⟨G, 5, none⟩ = some (.int .u32 (r : Int)) := hb2.cell 5
            have z5 := hb2.frozen 5
            have e5 : (t : Int) / 2 = (j : Int) := by have := HJ.out; omega
            go_upto_region 12 with (fail)
            obtain ⟨w3, hw3⟩ : ∃ w3, w2.setCell ⟨G, 5, none⟩ (.int .u32 (j : Int)) = w3 := ⟨_, rfl⟩
            first
              | rw [hw3]
              | (trace_state; fail)
            have hb3 : Bk w3 G 47 (adA (two D g j)) := by rw [← hw3]; exact hb2.put 5 _
            have hB3 : Below G w w3 := by rw [← hw3]; exact hB2.setCell (Nat.le_refl _) _
            have hr3 : Rows w3 (G + 1) (.slice Av j cv) j vs (N.take j) := by rw [← hw3]; exact hr2.setAd hb2 (by omega) 5 _
            clear hw3 hb2 hB2 hr2 f5 z5 e5
            have HG3 := Lib.hid hb3
            have HB3 := Lib.hid hB3
            have HR3 := Lib.hid hr3
            have RC := Lib.hid (show ∀ X, Below G w X → X.cell? ⟨b, off + t, none⟩ = some (.slice A1 32 c1) ∧ X.cell? ⟨b, off + (t + 1), none⟩ = some (.slice A2 32 c2) by
              intro X hX
              exact ⟨(hX.cell (p := ⟨b, off + t, none⟩) hb).trans K1.out, (hX.cell (p := ⟨b, off + (t + 1), none⟩) hb).trans K2.out⟩)
            have T2 : (t : Int) + 1 < (n : Int) := by omega
            have T3 : (0 : Int) ≤ (t : Int) + 1 := by omega
            have T4 : IntKind.i64.wrap ((t : Int) + 1) = (t : Int) + 1 := by rw [IntKind.wrap_i64]; omega
            have T5 : ((t : Int) + 1).toNat = t + 1 := by omega
            have BG := Lib.hid (show ∀ X, Below G w X → Below w.heap.size w X by intro X hX; exact HG.out ▸ hX)
            have HHH := Lib.hid (fun (X : World) (hX : Below G w X) => show Calls Tryd.prog 39 #[.slice As 32 cs, .agg #[.int .u32 (D.layer : Int), .int .u64 (D.tree : Int), .int .u32 1, .int .u32 (D.a : Int), .int .u32 (g : Int), .int .u32 (j : Int)], .slice A1 32 c1, .slice A2 32 c2] X (New X.heap.size X (hL sd (two D g j) (xss[t]?.getD []) (xss[t + 1]?.getD []))) from HHA.out X j (by omega) A1 c1 _ A2 c2 _ (HS.out.below (BG.out X hX)) (R1.out.below (BG.out X hX)) (R2.out.below (BG.out X hX)))
            have HLZ := Lib.hid (show (hL sd (two D g j) (xss[t]?.getD []) (xss[t + 1]?.getD [])).length = 32 from num_len _ _ _)
            generalize hL sd (two D g j) (xss[t]?.getD []) (xss[t + 1]?.getD []) = zs at HHH HLZ HNX
            clear hb3 hB3 hr3
            (go_region_held3 (fun w' => w'.cell? ⟨G, 0, none⟩ = some (.int .u32 (D.layer : Int)) ∧ w'.cell? ⟨G, 1, none⟩ = some (.int .u64 (D.tree : Int)) ∧ w'.cell? ⟨G, 2, none⟩ = some (.int .u32 1) ∧ w'.cell? ⟨G, 3, none⟩ = some (.int .u32 (D.a : Int)) ∧ w'.cell? ⟨G, 4, none⟩ = some (.int .u32 (g : Int)) ∧ w'.cell? ⟨G, 5, none⟩ = some (.int .u32 (j : Int)) ∧ w'.cell? ⟨b, off + t, none⟩ = some (.slice A1 32 c1) ∧ w'.cell? ⟨b, off + (t + 1), none⟩ = some (.slice A2 32 c2))
              (first
                | exact keep8 G5.out (RC.out _ B5.out)
                | exact keep8 (G4.out.alloc _) (RC.out _ A4B.out)
                | exact keep8 G4.out (RC.out _ B4.out)
                | exact keep8 HG3.out (RC.out _ HB3.out))
              (first
                | (go_at_call 39; ((with_reducible refine (HHH.out _ HB3.out.drew).mono ?_)); rintro e w4 ⟨A4, n4, c4, rfl, q4, b4⟩; obtain rfl : n4 = 32 := (own_len q4).symm.trans (HLZ.out); have O4 := Lib.hid q4; have B4 := Lib.hid ((HB3.out.drew).trans (b4.mono (Nat.le_of_lt HG3.out.lt))); have G4 := Lib.hid ((HG3.out.drew).below b4 (HG3.out.drew).lt); have R4 := Lib.hid ((HR3.out.drew).below b4); have A4B := Lib.hid (B4.out.alloc (Nat.le_of_lt G4.out.lt) (.cells #[.slice A4 32 c4] 22)); have L4 := Lib.hid (G4.out.lt); have W4 := Lib.hid (HR3.out.drew.newer q4); clear q4 b4)
                | (refine step_append_lies _ (by rfl) (.tmp 42) (.tmp 55) 40 (by rfl) (G + 1) 22 i0 _ 1 24 Tryd.underlying40 HI.out hz0 hz1 hz2 rfl (by omega) (.slice Av j cv) j vs (by rfl) (R4.out.alloc _).own ⟨w4.heap.size, 0, none⟩ 1 1 [.slice A4 32 c4] (by rfl) (by rfl) (World.news_of_block (heap_alloc_new w4 _)) (by simp [Value.oneCell']) (by omega) (by simp only [maxLen]; omega) (by omega) (by have := L4.out; simp; omega) (w4.heap.size + 1) (by simp) ?_; intro gg cap w5 hown5 hgrow5 hat5 hltg5; have G5 := Lib.hid ((G4.out.alloc _).only hgrow5 (fun e => by have := (R4.out.own.lt G e.symm).1; omega)); have B5 := Lib.hid (A4B.out.grown hgrow5 (by have := L4.out; simp; omega) (fun k hk => by have := (R4.out.own.lt k hk).1; omega)); have O5 := Lib.hid hown5; have W5 := Lib.hid hgrow5; have T5 := Lib.hid hat5; clear hown5 hgrow5 hat5 hltg5)
                | fail))
            go_wp2
            go_roundw
            case rel =>
              have e1 := HJ.out
              refine ⟨j + 1, vs ++ [.slice A4 32 c4], 1, g, j, by omega, by show Value.int .i64 _ = Value.int .i64 _; congr 1; omega, ?_, G5.out, by omega, by omega, by omega, B5.out⟩
              rw [HNX.out]
              exact (R4.out.alloc _).push O5.out W5.out (by simpa using T5.out) ((Rd.own O4.out).alloc _) W4.out
            case measure => simp [intOf]; omega
        · have T1 : ¬ (t : Int) < (n : Int) := by omega
          obtain rfl : j = N.length := by omega
          rw [List.take_length] at hrows
          have HRD := Lib.hid hrows.read
          have k0 : wr.cell? ⟨G, 0, none⟩ = some (.int .u32 (D.layer : Int)) := hbk.cell 0
          have k1 : wr.cell? ⟨G, 1, none⟩ = some (.int .u64 (D.tree : Int)) := hbk.cell 1
          have k2 : wr.cell? ⟨G, 2, none⟩ = some (.int .u32 (p : Int)) := hbk.cell 2
          have k3 : wr.cell? ⟨G, 3, none⟩ = some (.int .u32 (D.a : Int)) := hbk.cell 3
          have k4 : wr.cell? ⟨G, 4, none⟩ = some (.int .u32 (q : Int)) := hbk.cell 4
          have k5 : wr.cell? ⟨G, 5, none⟩ = some (.int .u32 (r : Int)) := hbk.cell 5
          have hBw : Below w.heap.size w wr := HG.out ▸ hB
          have hg1 : (g : Int) + 1 < 4294967296 := by omega
          have HB := Lib.hid hBw
          have HL := Lib.hid (show Calls Tryd.prog 24 #[.slice As 32 cs, .agg #[.int .u32 (D.layer : Int), .int .u64 (D.tree : Int), .int .u32 (p : Int), .int .u32 (D.a : Int), .int .u32 (q : Int), .int .u32 (r : Int)], .slice Av N.length cv, .int .u32 ((g : Int) + 1)] wr (Gives32 wr (leafS sd D f (g + 1) N)) from by
            have := IH.out { D with kind := p, b := q, c := r } ⟨HD.out.layer, HD.out.tree, hp, HD.out.a, hq, hr⟩ Av cv wr (HS.out.below hBw) HRD.out
            rw [leafS_same] at this
            exact this)
          obtain ⟨zs, hzs⟩ : ∃ zs, zs = leafS sd D f (g + 1) N := ⟨_, rfl⟩
          have EZ := Lib.hid hzs
          rw [← hzs] at HL
          clear hzs
          clear ht hrows hbk hB hBw hgl hjn hj
          go_wp2_with (go_at_call 24; ((with_reducible refine HL.out.mono ?_); rintro e w4 ⟨A4, c4, rfl, q4, b4⟩; have Q4 := Lib.hid q4; have N4 := Lib.hid b4; clear q4 b4))
          go_ret
          exact ⟨A4, c4, rfl, EZ.out ▸ Q4.out, HB.out.trans (N4.out.mono HB.out.size)⟩
end Go.Proofs.YtnejepidbahjdaaDoor.S15

/-
  What the document's own May and Leaf of layer 15 do. No statement is proved here.
-/
namespace Go.Proofs.YtnejepidbahjdaaDoor.S15
set_option linter.unusedSimpArgs false
set_option linter.unusedVariables false
set_option maxRecDepth 1024
open Go.RowKit

def mayN (ns nl ne : Nat) : Bool := decide (ns = 32) && (decide (nl = 32) && decide (ne = 32))
set_option maxHeartbeats 4000000 in
theorem rmay_any15 (As : Option Addr) (ns cs : Nat) (Al : Option Addr) (nl cl : Nat) (Ae : Option Addr) (ne ce : Nat) (w : World) :
    Calls Tryd.prog 11 #[.agg (mkA As ns cs Al nl cl Ae ne ce)] w fun e w' => e = .returned (.bool (mayN ns nl ne)) ∧ Below w.heap.size w w' := by
  have B0 : Below w.heap.size w (w.alloc (.cells (mkA As ns cs Al nl cl Ae ne ce) 24)) := (Below.refl _ _).alloc (Nat.le_refl _) _
  by_cases h1 : ns = 32
  · have e1 : ((ns : Int) == 32) = true := by simp; omega
    by_cases h2 : nl = 32
    · have e2 : ((nl : Int) == 32) = true := by simp; omega
      by_cases h3 : ne = 32
      · have e3 : ((ne : Int) == 32) = true := by simp; omega
        have e : mayN ns nl ne = true := by simp [mayN, h1, h2, h3]
        rw [e]
        clear e
        subst h1 h2 h3
        have BH := Lib.hid B0
        clear B0
        go_enter Tryd.func11, Tryd.ntmps11
        go_wp2
        go_ret
        exact ⟨rfl, BH.out⟩
      · have e3 : ((ne : Int) == 32) = false := by simp; omega
        have e : mayN ns nl ne = false := by simp [mayN, h3]
        rw [e]
        clear e
        subst h1 h2
        have BH := Lib.hid B0
        clear B0
        go_enter Tryd.func11, Tryd.ntmps11
        go_wp2
        go_ret
        exact ⟨rfl, BH.out⟩
    · have e2 : ((nl : Int) == 32) = false := by simp; omega
      have e : mayN ns nl ne = false := by simp [mayN, h2]
      rw [e]
      clear e
      subst h1
      have BH := Lib.hid B0
      clear B0
      go_enter Tryd.func11, Tryd.ntmps11
      go_wp2
      go_ret
      exact ⟨rfl, BH.out⟩
  · have e1 : ((ns : Int) == 32) = false := by simp; omega
    have e : mayN ns nl ne = false := by simp [mayN, h1]
    rw [e]
    clear e
    have BH := Lib.hid B0
    clear B0
    go_enter Tryd.func11, Tryd.ntmps11
    go_wp2
    go_ret
    exact ⟨rfl, BH.out⟩
/-- The address that a leaf begins with. -/
abbrev adQ (ly tr qq : Nat) : Ad := ⟨ly, tr, 0, qq, 0, 0⟩
theorem leafL_eq (sec sd : List UInt8) (D : Ad) : leafL sec sd D = leafS sd D 7 0 (endsL sec sd D) := rfl
theorem ends_len (sec sd : List UInt8) (D : Ad) : (endsL sec sd D).length = 67 := by simp [endsL]
theorem ends_get (sec sd : List UInt8) (D : Ad) (k : Nat) (h : k < 67) : (endsL sec sd D)[k]?.getD [] = upL sd D k 0 15 (secL sec D k) := by simp [endsL, h]
theorem ends_32 (sec sd : List UInt8) (D : Ad) : ∀ r ∈ endsL sec sd D, r.length = 32 := by
  intro r hr
  obtain ⟨i, _, rfl⟩ := List.mem_map.1 hr
  exact up_len _ _ _ _ _ _ (num_len _ _ _)
abbrev qA (ly tr qq : Nat) : Array Value := #[.int .u32 (ly : Int), .int .u64 (tr : Int), .int .u32 0, .int .u32 (qq : Int), .int .u32 0, .int .u32 0]
theorem keep9 {w' : World} {g d : Nat} {T T' : TypeId} {As Al Ae : Option Addr} {ns cs nl cl ne ce ly tr qq : Nat} (h : Bk w' g T (mkA As ns cs Al nl cl Ae ne ce)) (h' : Bk w' d T' (qA ly tr qq)) : w'.cell? ⟨g, 0, none⟩ = some (.slice As ns cs) ∧ w'.cell? ⟨g, 1, none⟩ = some (.slice Al nl cl) ∧ w'.cell? ⟨g, 2, none⟩ = some (.slice Ae ne ce) ∧ w'.cell? ⟨d, 0, none⟩ = some (.int .u32 (ly : Int)) ∧ w'.cell? ⟨d, 1, none⟩ = some (.int .u64 (tr : Int)) ∧ w'.cell? ⟨d, 2, none⟩ = some (.int .u32 0) ∧ w'.cell? ⟨d, 3, none⟩ = some (.int .u32 (qq : Int)) ∧ w'.cell? ⟨d, 4, none⟩ = some (.int .u32 0) ∧ w'.cell? ⟨d, 5, none⟩ = some (.int .u32 0) :=
  ⟨h.cell 0, h.cell 1, h.cell 2, h'.cell 0, h'.cell 1, h'.cell 2, h'.cell 3, h'.cell 4, h'.cell 5⟩
set_option maxHeartbeats 4000000 in
theorem rleaf_core (As : Option Addr) (cs : Nat) (Al : Option Addr) (cl : Nat) (Ae : Option Addr) (ce : Nat) (ly tr qq : Nat) (w : World) (S U : Nat → List UInt8) (E : List (List UInt8)) (zz : List UInt8)
    (my : ∀ X, Calls Tryd.prog 11 #[.agg #[.slice As 32 cs, .slice Al 32 cl, .slice Ae 32 ce]] X fun e w' => e = .returned (.bool true) ∧ Below X.heap.size X w')
    (sec : ∀ (X : World) (k : Nat), Below w.heap.size w X → k < 67 → Calls Tryd.prog 23 #[.agg #[.slice As 32 cs, .slice Al 32 cl, .slice Ae 32 ce], .agg #[.int .u32 (ly : Int), .int .u64 (tr : Int), .int .u32 0, .int .u32 (qq : Int), .int .u32 0, .int .u32 0], .int .i64 (k : Int)] X (New X.heap.size X (S k)))
    (up : ∀ (X : World) (k : Nat) (B : Option Addr) (cB : Nat), Below w.heap.size w X → k < 67 → Rd X B 32 cB (S k) → Calls Tryd.prog 22 #[.slice Ae 32 ce, .agg #[.int .u32 (ly : Int), .int .u64 (tr : Int), .int .u32 0, .int .u32 (qq : Int), .int .u32 0, .int .u32 0], .int .i64 (k : Int), .int .i64 0, .int .i64 15, .slice B 32 cB] X (New X.heap.size X (U k)))
    (sum : ∀ (X : World) (B : Option Addr) (cB : Nat), Below w.heap.size w X → RdBs X B 67 cB E → Calls Tryd.prog 24 #[.slice Ae 32 ce, .agg #[.int .u32 (ly : Int), .int .u64 (tr : Int), .int .u32 0, .int .u32 (qq : Int), .int .u32 0, .int .u32 0], .slice B 67 cB, .int .u32 0] X (Gives32 X zz))
    (sl : ∀ k, (S k).length = 32) (ul : ∀ k, (U k).length = 32) (eg : ∀ k, k < 67 → E[k]?.getD [] = U k) (el : E.length = 67) :
    Calls Tryd.prog 14 #[.agg (mkA As 32 cs Al 32 cl Ae 32 ce), .int .u32 (ly : Int), .int .u64 (tr : Int), .int .u32 (qq : Int)] w (Gives32 w zz) := by
  have MY := Lib.hid my
  have SEC := Lib.hid sec
  have UP := Lib.hid up
  have SUM := Lib.hid sum
  have SL := Lib.hid sl
  have UL := Lib.hid ul
  have EG := Lib.hid eg
  have EL := Lib.hid el
  clear my sec up sum sl ul eg el
  obtain ⟨i0, hi, hz0, hz1, hz2⟩ := info_parts Tryd.infoRows
  have HI := Lib.hid hi
  clear hi
  obtain ⟨g, hg⟩ : ∃ g, g = w.heap.size := ⟨_, rfl⟩
  have HG := Lib.hid hg
  go_enter Tryd.func14, Tryd.ntmps14
  go_upto_region 1 with (fail)
  obtain ⟨w0, hw0⟩ : ∃ w0, w.alloc (.cells (mkA As 32 cs Al 32 cl Ae 32 ce) 24) = w0 := ⟨_, rfl⟩
  have M0 := Lib.hid (show Bk w0 g 24 (mkA As 32 cs Al 32 cl Ae 32 ce) by rw [← hw0, hg]; exact Bk.new _ _ _)
  have B0 := Lib.hid (show Below w.heap.size w w0 by rw [← hw0]; exact (Below.refl _ _).alloc (Nat.le_refl _) _)
  first
    | rw [hw0, ← hg]
    | (trace_state; fail)
  have k0 : w0.cell? ⟨g, 0, none⟩ = some (.slice As 32 cs) := M0.out.cell 0
  have k1 : w0.cell? ⟨g, 1, none⟩ = some (.slice Al 32 cl) := M0.out.cell 1
  have k2 : w0.cell? ⟨g, 2, none⟩ = some (.slice Ae 32 ce) := M0.out.cell 2
  clear hw0 hg
  go_upto_region 3 with (go_at_call 11; ((with_reducible refine (MY.out _).mono ?_); rintro e w1 ⟨rfl, b1⟩; have B1 := Lib.hid (B0.out.trans (b1.mono B0.out.size)); have M1 := Lib.hid (M0.out.below b1 M0.out.lt); clear b1))
  go_upto_region 4 with (fail)
  obtain ⟨d, hd⟩ : ∃ d, w1.heap.size = d := ⟨_, rfl⟩
  obtain ⟨w2, hw2⟩ : ∃ w2, w1.alloc (.cells (qA ly tr qq) 47) = w2 := ⟨_, rfl⟩
  have D2 : Bk w2 d 47 (qA ly tr qq) := by rw [← hw2]; exact Bk.newAt _ _ _ _ hd
  have M2 : Bk w2 g 24 (mkA As 32 cs Al 32 cl Ae 32 ce) := by rw [← hw2]; exact M1.out.alloc _
  have B2 : Below w.heap.size w w2 := by rw [← hw2]; exact B1.out.alloc B1.out.size _
  have DG := Lib.hid (show g < d ∧ w.heap.size ≤ d from ⟨by rw [← hd]; exact M1.out.lt, by rw [← hd]; exact B1.out.size⟩)
  first
    | rw [hw2, hd]
    | (trace_state; fail)
  clear hw2 hd k0 k1 k2
  go_wp2_with (fail)
  go_loopw [10, 11] (fun nx i wr => ∃ (k : Nat) (vs : List Value), k ≤ 67 ∧ i = .int .i64 (k : Int) ∧ Rows wr (d + 1) nx k vs (E.take k) ∧ Bk wr d 47 (qA ly tr qq) ∧ Bk wr g 24 (mkA As 32 cs Al 32 cl Ae 32 ce) ∧ Below w.heap.size w wr) (fun _ i _ => 67 - (intOf i).toNat)
  case atStart => exact ⟨0, [], by omega, rfl, Rows.nil_ _ _, D2, M2, B2⟩
  case round =>
    clear D2 M2 B2
    obtain ⟨k, vs, hk, rfl, hrows, hD, hM, hB⟩ := hrel
    obtain ⟨Av, cv, rfl⟩ := hrows.form
    have HR3 := Lib.hid hrows
    have HD3 := Lib.hid hD
    have HM3 := Lib.hid hM
    have HB3 := Lib.hid hB
    by_cases hlt : k < 67
    · have T0 : (k : Int) < 67 := by omega
      have HNX := Lib.hid (show E.take (k + 1) = E.take k ++ [U k] by rw [take_next (by have := EL.out; omega), EG.out k hlt])
      clear hrows hD hM hB
      go_upto_region 8 with (fail)
      (go_region_held3 (fun w' => w'.cell? ⟨g, 0, none⟩ = some (.slice As 32 cs) ∧ w'.cell? ⟨g, 1, none⟩ = some (.slice Al 32 cl) ∧ w'.cell? ⟨g, 2, none⟩ = some (.slice Ae 32 ce) ∧ w'.cell? ⟨d, 0, none⟩ = some (.int .u32 (ly : Int)) ∧ w'.cell? ⟨d, 1, none⟩ = some (.int .u64 (tr : Int)) ∧ w'.cell? ⟨d, 2, none⟩ = some (.int .u32 0) ∧ w'.cell? ⟨d, 3, none⟩ = some (.int .u32 (qq : Int)) ∧ w'.cell? ⟨d, 4, none⟩ = some (.int .u32 0) ∧ w'.cell? ⟨d, 5, none⟩ = some (.int .u32 0))
        (first
          | exact keep9 M6.out D6.out
          | exact keep9 (M5.out.alloc _) (D5.out.alloc _)
          | exact keep9 M5.out D5.out
          | exact keep9 M4.out D4.out
          | exact keep9 HM3.out HD3.out)
        (first
          | (go_at_call 23; ((with_reducible refine (SEC.out _ k HB3.out.drew hlt).mono ?_)); rintro e w4 ⟨A4, n4, c4, rfl, q4, b4⟩; obtain rfl : n4 = 32 := (own_len q4).symm.trans (SL.out k); have O4 := Lib.hid (Rd.own q4); have B4 := Lib.hid ((HB3.out.drew).trans (b4.mono HB3.out.size)); have M4 := Lib.hid ((HM3.out.drew).below b4 (HM3.out.drew).lt); have D4 := Lib.hid ((HD3.out.drew).below b4 (HD3.out.drew).lt); have R4 := Lib.hid ((HR3.out.drew).below b4); clear q4 b4)
          | (go_at_call 22; ((with_reducible refine (UP.out _ k A4 c4 B4.out hlt O4.out).mono ?_)); rintro e w5 ⟨A5, n5, c5, rfl, q5, b5⟩; obtain rfl : n5 = 32 := (own_len q5).symm.trans (UL.out k); have O5 := Lib.hid (Rd.own q5); have B5 := Lib.hid ((B4.out).trans (b5.mono B4.out.size)); have M5 := Lib.hid ((M4.out).below b5 (M4.out).lt); have D5 := Lib.hid ((D4.out).below b5 (D4.out).lt); have W5 := Lib.hid (R4.out.newer q5); have R5 := Lib.hid ((R4.out).below b5); clear q5 b5)
          | (refine step_append_lies _ (by rfl) (.tmp 23) (.tmp 33) 40 (by rfl) (d + 1) 22 i0 _ 1 24 Tryd.underlying40 HI.out hz0 hz1 hz2 rfl (by omega) (.slice Av k cv) k vs (by rfl) (R5.out.alloc _).own ⟨w5.heap.size, 0, none⟩ 1 1 [.slice A5 32 c5] (by rfl) (by rfl) (World.news_of_block (heap_alloc_new w5 _)) (by simp [Value.oneCell']) (by omega) (by simp only [maxLen]; omega) (by omega) (by have := D5.out.lt; simp; omega) (w5.heap.size + 1) (by simp) ?_; intro gg cap w6 hown6 hgrow6 hat6 hltg6; have D6 := Lib.hid ((D5.out.alloc _).only hgrow6 (fun e => by have := (R5.out.own.lt d e.symm).1; omega)); have M6 := Lib.hid ((M5.out.alloc _).only hgrow6 (fun e => by have := (R5.out.own.lt g e.symm).1; have := DG.out.1; omega)); have B6 := Lib.hid ((B5.out.alloc B5.out.size (.cells #[.slice A5 32 c5] 22)).grown hgrow6 (by have := B5.out.size; simp; omega) (fun k hk => by have := (R5.out.own.lt k hk).1; have := DG.out.2; omega)); have O6 := Lib.hid hown6; have W6 := Lib.hid hgrow6; have T6 := Lib.hid hat6; clear hown6 hgrow6 hat6 hltg6)
          | fail))
      go_wp2
      go_roundw
      case rel =>
        refine ⟨k + 1, vs ++ [.slice A5 32 c5], by omega, by go_num, ?_, D6.out, M6.out, B6.out⟩
        rw [HNX.out]
        exact (R5.out.alloc _).push O6.out W6.out (by simpa using T6.out) (O5.out.alloc _) W5.out
      case measure => simp [intOf]; omega
    · obtain rfl : k = 67 := by omega
      rw [List.take_of_length_le (by have := EL.out; omega)] at hrows
      have HRD := Lib.hid hrows.read
      obtain ⟨k0, k1, k2, k3, k4, k5, k6, k7, k8⟩ := keep9 hM hD
      clear hrows hD hM hB hlt hk
      go_wp2_with (go_at_call 24; ((with_reducible refine (SUM.out _ Av cv HB3.out HRD.out).mono ?_); rintro e w4 ⟨A4, c4, rfl, q4, b4⟩; have Q4 := Lib.hid q4; have N4 := Lib.hid b4; clear q4 b4))
      go_ret
      exact ⟨A4, c4, rfl, Q4.out, HB3.out.trans (N4.out.mono HB3.out.size)⟩
theorem rleaf_may (As : Option Addr) (cs : Nat) (sec : List UInt8) (Al : Option Addr) (cl : Nat) (Ae : Option Addr) (ce : Nat) (sd : List UInt8) (ly tr qq : Nat) (w : World) (hs : Rd w As 32 cs sec) (he : Rd w Ae 32 ce sd) (h1 : ly < 4294967296) (h2 : tr < 18446744073709551616) (h3 : qq < 4294967296) :
    Calls Tryd.prog 14 #[.agg (mkA As 32 cs Al 32 cl Ae 32 ce), .int .u32 (ly : Int), .int .u64 (tr : Int), .int .u32 (qq : Int)] w (Gives32 w (leafL sec sd (adQ ly tr qq))) := by
  have DOk : (adQ ly tr qq).Ok := ⟨h1, h2, by show 0 < _; omega, h3, by show 0 < _; omega, by show 0 < _; omega⟩
  exact rleaf_core As cs Al cl Ae ce ly tr qq w (fun k => secL sec (adQ ly tr qq) k) (fun k => upL sd (adQ ly tr qq) k 0 15 (secL sec (adQ ly tr qq) k)) (endsL sec sd (adQ ly tr qq)) _
    (fun X => rmay_any15 As 32 cs Al 32 cl Ae 32 ce X)
    (fun X k hX hk => rsec_any (adQ ly tr qq) DOk k (by omega) As cs sec Al 32 cl Ae 32 ce X (hs.below hX))
    (fun X k B cB hX hk hz => rup_any (adQ ly tr qq) DOk k 0 15 (by omega) (by omega) Ae ce sd B cB _ X (he.below hX) hz (by omega))
    (fun X B cB hX hz => rsum_any15 Ae ce sd 7 0 (adQ ly tr qq) DOk B 67 cB _ X (he.below hX) hz (ends_32 _ _ _) (by omega) (by omega) (by omega) (by omega))
    (fun k => num_len _ _ _) (fun k => up_len _ _ _ _ _ _ (num_len _ _ _)) (fun k h => ends_get sec sd _ k h) (ends_len _ _ _)
end Go.Proofs.YtnejepidbahjdaaDoor.S15
