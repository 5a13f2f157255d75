/-
  Texts put together: WpL6, OctX, DigK1, DigP. No statement is proved here.
-/
import Derived.Test.YtnejepidbahjdaaDoorWm19
import Derived.Test.YtnejepidbahjdaaDoorWm02
import Derived.RegionTactic
import Derived.ChangeAlike
import Derived.Test.YtnejepidbahjdaaDoorWm13
import Derived.Lib.BitFns
import Derived.Test.YtnejepidbahjdaaDoorWm01

/-
  The walk of layer 15's fifth statement, whole. No statement is proved here. (Written by genwl5.py.)
-/
namespace Go.Proofs.YtnejepidbahjdaaDoor.S15
set_option linter.unusedSimpArgs false
set_option linter.unusedVariables false
set_option maxRecDepth 4096
open Go.RowKit

set_option maxHeartbeats 4000000 in
theorem wplusLengths_walk (M : WC) (w : World) (hk : M.ok w) (As : Option Addr) (ns cs : Nat) (sec : List UInt8) (hs : Rd w As ns cs sec) (Al : Option Addr) (nl cl : Nat) (salt : List UInt8) (hl : Rd w Al nl cl salt) (Ae : Option Addr) (ne ce : Nat) (sd : List UInt8) (he : Rd w Ae ne ce sd) (At : Option Addr) (nt ct : Nat) (text : List UInt8) (ht : Rd w At nt ct text) (Ag : Option Addr) (ng cg : Nat) (sig : List UInt8) (hg : Rd w Ag ng cg sig) :
    Calls Tryd.prog 7 #[.agg (mkA As ns cs Al nl cl Ae ne ce), .slice At nt ct, .slice Ag ng cg] w fun e w' => e = .returned (.bool true) ∧ Below w.heap.size w w' := by
  by_cases c1 : 100 < ns
  · have q1 : (100 : Int) < (ns : Int) := by omega
    obtain ⟨g, hgs⟩ : ∃ g, g = w.heap.size := ⟨_, rfl⟩
    obtain ⟨w0, hw0⟩ : ∃ w0, w.alloc (.cells (mkA As ns cs Al nl cl Ae ne ce) 24) = w0 := ⟨_, rfl⟩
    have M0 := Lib.hid (show Bk w0 g 24 (mkA As ns cs Al nl cl Ae ne ce) by rw [← hw0, hgs]; exact Bk.new _ _ _)
    have B0 := Lib.hid (show Below w.heap.size w w0 by rw [← hw0]; exact (Below.refl _ _).alloc (Nat.le_refl _) _)
    have HW := Lib.hid hw0
    have HGS := Lib.hid hgs
    have HAW := Lib.hid (fun X g => awake_true M X g)
    have HK := Lib.hid hk
    clear hk hs hl he ht hg hw0 hgs
    go_enter Tryd.func7, Tryd.ntmps7
    go_upto_region 1 with (fail)
    rw [HW.out, ← HGS.out]
    go_upto_region 3 with (go_at_call 8; ((with_reducible refine (HAW.out _ (M.bel HK.out B0.out)).mono ?_); rintro e w1 ⟨rfl, b1⟩; have B1 := Lib.hid (B0.out.trans (b1.mono B0.out.size)); have M1 := Lib.hid (M0.out.below b1 M0.out.lt); clear b1))
    obtain ⟨k0, k1, k2⟩ := mk_cells M1.out
    go_wp2
    go_ret
    exact ⟨rfl, B1.out⟩
  have q1 : ¬ (100 : Int) < (ns : Int) := by omega
  by_cases c2 : 100 < nl
  · have q2 : (100 : Int) < (nl : Int) := by omega
    obtain ⟨g, hgs⟩ : ∃ g, g = w.heap.size := ⟨_, rfl⟩
    obtain ⟨w0, hw0⟩ : ∃ w0, w.alloc (.cells (mkA As ns cs Al nl cl Ae ne ce) 24) = w0 := ⟨_, rfl⟩
    have M0 := Lib.hid (show Bk w0 g 24 (mkA As ns cs Al nl cl Ae ne ce) by rw [← hw0, hgs]; exact Bk.new _ _ _)
    have B0 := Lib.hid (show Below w.heap.size w w0 by rw [← hw0]; exact (Below.refl _ _).alloc (Nat.le_refl _) _)
    have HW := Lib.hid hw0
    have HGS := Lib.hid hgs
    have HAW := Lib.hid (fun X g => awake_true M X g)
    have HK := Lib.hid hk
    clear hk hs hl he ht hg hw0 hgs
    go_enter Tryd.func7, Tryd.ntmps7
    go_upto_region 1 with (fail)
    rw [HW.out, ← HGS.out]
    go_upto_region 3 with (go_at_call 8; ((with_reducible refine (HAW.out _ (M.bel HK.out B0.out)).mono ?_); rintro e w1 ⟨rfl, b1⟩; have B1 := Lib.hid (B0.out.trans (b1.mono B0.out.size)); have M1 := Lib.hid (M0.out.below b1 M0.out.lt); clear b1))
    obtain ⟨k0, k1, k2⟩ := mk_cells M1.out
    go_wp2
    go_ret
    exact ⟨rfl, B1.out⟩
  have q2 : ¬ (100 : Int) < (nl : Int) := by omega
  by_cases c3 : 100 < ne
  · have q3 : (100 : Int) < (ne : Int) := by omega
    obtain ⟨g, hgs⟩ : ∃ g, g = w.heap.size := ⟨_, rfl⟩
    obtain ⟨w0, hw0⟩ : ∃ w0, w.alloc (.cells (mkA As ns cs Al nl cl Ae ne ce) 24) = w0 := ⟨_, rfl⟩
    have M0 := Lib.hid (show Bk w0 g 24 (mkA As ns cs Al nl cl Ae ne ce) by rw [← hw0, hgs]; exact Bk.new _ _ _)
    have B0 := Lib.hid (show Below w.heap.size w w0 by rw [← hw0]; exact (Below.refl _ _).alloc (Nat.le_refl _) _)
    have HW := Lib.hid hw0
    have HGS := Lib.hid hgs
    have HAW := Lib.hid (fun X g => awake_true M X g)
    have HK := Lib.hid hk
    clear hk hs hl he ht hg hw0 hgs
    go_enter Tryd.func7, Tryd.ntmps7
    go_upto_region 1 with (fail)
    rw [HW.out, ← HGS.out]
    go_upto_region 3 with (go_at_call 8; ((with_reducible refine (HAW.out _ (M.bel HK.out B0.out)).mono ?_); rintro e w1 ⟨rfl, b1⟩; have B1 := Lib.hid (B0.out.trans (b1.mono B0.out.size)); have M1 := Lib.hid (M0.out.below b1 M0.out.lt); clear b1))
    obtain ⟨k0, k1, k2⟩ := mk_cells M1.out
    go_wp2
    go_ret
    exact ⟨rfl, B1.out⟩
  have q3 : ¬ (100 : Int) < (ne : Int) := by omega
  by_cases c4 : 100 < nt
  · have q4 : (100 : Int) < (nt : Int) := by omega
    obtain ⟨g, hgs⟩ : ∃ g, g = w.heap.size := ⟨_, rfl⟩
    obtain ⟨w0, hw0⟩ : ∃ w0, w.alloc (.cells (mkA As ns cs Al nl cl Ae ne ce) 24) = w0 := ⟨_, rfl⟩
    have M0 := Lib.hid (show Bk w0 g 24 (mkA As ns cs Al nl cl Ae ne ce) by rw [← hw0, hgs]; exact Bk.new _ _ _)
    have B0 := Lib.hid (show Below w.heap.size w w0 by rw [← hw0]; exact (Below.refl _ _).alloc (Nat.le_refl _) _)
    have HW := Lib.hid hw0
    have HGS := Lib.hid hgs
    have HAW := Lib.hid (fun X g => awake_true M X g)
    have HK := Lib.hid hk
    clear hk hs hl he ht hg hw0 hgs
    go_enter Tryd.func7, Tryd.ntmps7
    go_upto_region 1 with (fail)
    rw [HW.out, ← HGS.out]
    go_upto_region 3 with (go_at_call 8; ((with_reducible refine (HAW.out _ (M.bel HK.out B0.out)).mono ?_); rintro e w1 ⟨rfl, b1⟩; have B1 := Lib.hid (B0.out.trans (b1.mono B0.out.size)); have M1 := Lib.hid (M0.out.below b1 M0.out.lt); clear b1))
    obtain ⟨k0, k1, k2⟩ := mk_cells M1.out
    go_wp2
    go_ret
    exact ⟨rfl, B1.out⟩
  have q4 : ¬ (100 : Int) < (nt : Int) := by omega
  by_cases c5 : 3000 < ng
  · have q5 : (3000 : Int) < (ng : Int) := by omega
    obtain ⟨g, hgs⟩ : ∃ g, g = w.heap.size := ⟨_, rfl⟩
    obtain ⟨w0, hw0⟩ : ∃ w0, w.alloc (.cells (mkA As ns cs Al nl cl Ae ne ce) 24) = w0 := ⟨_, rfl⟩
    have M0 := Lib.hid (show Bk w0 g 24 (mkA As ns cs Al nl cl Ae ne ce) by rw [← hw0, hgs]; exact Bk.new _ _ _)
    have B0 := Lib.hid (show Below w.heap.size w w0 by rw [← hw0]; exact (Below.refl _ _).alloc (Nat.le_refl _) _)
    have HW := Lib.hid hw0
    have HGS := Lib.hid hgs
    have HAW := Lib.hid (fun X g => awake_true M X g)
    have HK := Lib.hid hk
    clear hk hs hl he ht hg hw0 hgs
    go_enter Tryd.func7, Tryd.ntmps7
    go_upto_region 1 with (fail)
    rw [HW.out, ← HGS.out]
    go_upto_region 3 with (go_at_call 8; ((with_reducible refine (HAW.out _ (M.bel HK.out B0.out)).mono ?_); rintro e w1 ⟨rfl, b1⟩; have B1 := Lib.hid (B0.out.trans (b1.mono B0.out.size)); have M1 := Lib.hid (M0.out.below b1 M0.out.lt); clear b1))
    obtain ⟨k0, k1, k2⟩ := mk_cells M1.out
    go_wp2
    go_ret
    exact ⟨rfl, B1.out⟩
  have q5 : ¬ (3000 : Int) < (ng : Int) := by omega
  have MYB : ∀ b, mayN ns nl ne = b → ∀ X, M.ok X → Rd X As ns cs sec → Rd X Al nl cl salt → Rd X Ae ne ce sd → Calls Tryd.prog 10 #[.agg #[.slice As ns cs, .slice Al nl cl, .slice Ae ne ce]] X fun e w' => e = .returned (.bool b) ∧ Below X.heap.size X w' := fun b hb X h1 h2 h3 h4 => hb ▸ M.may As ns cs sec Al nl cl salt Ae ne ce sd X h1 h2 h3 h4
  have RYB : ∀ b, mayN ns nl ne = b → ∀ X, Calls Tryd.prog 11 #[.agg #[.slice As ns cs, .slice Al nl cl, .slice Ae ne ce]] X fun e w' => e = .returned (.bool b) ∧ Below X.heap.size X w' := fun b hb X => hb ▸ rmay_any15 As ns cs Al nl cl Ae ne ce X
  have SGC : ∀ X, Below w.heap.size w X → Calls Tryd.prog 15 #[.agg #[.slice As ns cs, .slice Al nl cl, .slice Ae ne ce], .int .u32 0, .int .u64 0, .int .u32 0, .slice At nt ct] X (New X.heap.size X (signW sec salt sd 0 0 0 text)) := fun X hX => M.sign As ns cs sec Al nl cl salt Ae ne ce sd 0 0 0 At nt ct text X (M.bel hk hX) (hs.below hX) (hl.below hX) (he.below hX) (ht.below hX) (by omega) (by omega) (by omega)
  have STC : ∀ X, Below w.heap.size w X → Calls Tryd.prog 17 #[.slice Ae ne ce, .int .u32 0, .int .u64 0, .int .u32 0, .slice At nt ct, .slice Ag ng cg] X (New X.heap.size X (standW sd 0 0 0 text sig)) := fun X hX => M.stands Ae ne ce sd 0 0 0 At nt ct text Ag ng cg sig X (M.bel hk hX) (he.below hX) (ht.below hX) (hg.below hX) (by omega) (by omega) (by omega)
  have LSG : (signW sec salt sd 0 0 0 text).length = if mayN ns nl ne = true ∧ nt = 32 then 2144 else 0 := by
    unfold signW
    rw [hs.len, hl.len, he.len, ht.len]
    split
    · exact sign_len _ _ _ _
    · rfl
  have LST : (standW sd 0 0 0 text sig).length = if ne = 32 ∧ nt = 32 ∧ ng = 2144 then 32 else 0 := by
    unfold standW
    rw [he.len, ht.len, hg.len]
    split
    · rename_i h
      exact stand_len _ _ _ _ (by rw [hg.len]; exact h.2.2)
    · rfl
  by_cases d1 : ne = 32
  · have E1 : ((ne : Int) == 32) = true := by simp; omega
    by_cases d2 : nt = 32
    · have E2 : ((nt : Int) == 32) = true := by simp; omega
      by_cases d3 : ng = 2144
      · have E3 : ((ng : Int) == 2144) = true := by simp; omega
        cases hb : mayN ns nl ne
        case false =>
          exact lens_c01 M w hk As ns cs sec hs Al nl cl salt hl Ae ne ce sd he At nt ct text ht Ag ng cg sig hg q1 q2 q3 q4 q5 E1 E2 E3 (fun X hX => MYB _ hb X (M.bel hk hX) (hs.below hX) (hl.below hX) (he.below hX)) (RYB _ hb) _ (by rw [LSG, if_neg (by rintro ⟨h1, h2⟩; first | (rw [hb] at h1; exact absurd h1 (by decide)) | omega)]) SGC _ (by rw [LST, if_pos ⟨d1, d2, d3⟩]) STC
        case true =>
          exact lens_c11 M w hk As ns cs sec hs Al nl cl salt hl Ae ne ce sd he At nt ct text ht Ag ng cg sig hg q1 q2 q3 q4 q5 E1 E2 E3 (fun X hX => MYB _ hb X (M.bel hk hX) (hs.below hX) (hl.below hX) (he.below hX)) (RYB _ hb) _ (by rw [LSG, if_pos ⟨hb, d2⟩]) SGC _ (by rw [LST, if_pos ⟨d1, d2, d3⟩]) STC
      · have E3 : ((ng : Int) == 2144) = false := by simp; omega
        cases hb : mayN ns nl ne
        case false =>
          exact lens_c00 M w hk As ns cs sec hs Al nl cl salt hl Ae ne ce sd he At nt ct text ht Ag ng cg sig hg q1 q2 q3 q4 q5 E1 E2 E3 (fun X hX => MYB _ hb X (M.bel hk hX) (hs.below hX) (hl.below hX) (he.below hX)) (RYB _ hb) _ (by rw [LSG, if_neg (by rintro ⟨h1, h2⟩; first | (rw [hb] at h1; exact absurd h1 (by decide)) | omega)]) SGC _ (by rw [LST, if_neg (by omega)]) STC
        case true =>
          exact lens_c10 M w hk As ns cs sec hs Al nl cl salt hl Ae ne ce sd he At nt ct text ht Ag ng cg sig hg q1 q2 q3 q4 q5 E1 E2 E3 (fun X hX => MYB _ hb X (M.bel hk hX) (hs.below hX) (hl.below hX) (he.below hX)) (RYB _ hb) _ (by rw [LSG, if_pos ⟨hb, d2⟩]) SGC _ (by rw [LST, if_neg (by omega)]) STC
    · have E2 : ((nt : Int) == 32) = false := by simp; omega
      cases hb : mayN ns nl ne
      case false =>
        exact lens_b0 M w hk As ns cs sec hs Al nl cl salt hl Ae ne ce sd he At nt ct text ht Ag ng cg sig hg q1 q2 q3 q4 q5 E1 E2 (fun X hX => MYB _ hb X (M.bel hk hX) (hs.below hX) (hl.below hX) (he.below hX)) (RYB _ hb) _ (by rw [LSG, if_neg (by rintro ⟨h1, h2⟩; first | (rw [hb] at h1; exact absurd h1 (by decide)) | omega)]) SGC _ (by rw [LST, if_neg (by omega)]) STC
      case true =>
        exact lens_b1 M w hk As ns cs sec hs Al nl cl salt hl Ae ne ce sd he At nt ct text ht Ag ng cg sig hg q1 q2 q3 q4 q5 E1 E2 (fun X hX => MYB _ hb X (M.bel hk hX) (hs.below hX) (hl.below hX) (he.below hX)) (RYB _ hb) _ (by rw [LSG, if_neg (by rintro ⟨h1, h2⟩; first | (rw [hb] at h1; exact absurd h1 (by decide)) | omega)]) SGC _ (by rw [LST, if_neg (by omega)]) STC
  · have E1 : ((ne : Int) == 32) = false := by simp; omega
    have hb : mayN ns nl ne = false := by simp [mayN, d1]
    exact lens_a M w hk As ns cs sec hs Al nl cl salt hl Ae ne ce sd he At nt ct text ht Ag ng cg sig hg q1 q2 q3 q4 q5 E1 (fun X hX => MYB _ hb X (M.bel hk hX) (hs.below hX) (hl.below hX) (he.below hX)) (RYB _ hb) _ (by rw [LSG, if_neg (by rintro ⟨h1, h2⟩; first | (rw [hb] at h1; exact absurd h1 (by decide)) | omega)]) SGC _ (by rw [LST, if_neg (by omega)]) STC
end Go.Proofs.YtnejepidbahjdaaDoor.S15

/-
  What the calls of package octet do: Fill and Xor.
-/
namespace Go.Proofs.YtnejepidbahjdaaDoor
set_option linter.unusedSimpArgs false
set_option linter.unusedVariables false
set_option maxRecDepth 1024
open Go.RowKit

theorem fill_step (b : UInt8) (k n : Nat) (h : k < n) : (bv (List.replicate k b ++ List.replicate (n - k) 0)).set k (.int .u8 (b.toNat : Int)) = bv (List.replicate (k + 1) b ++ List.replicate (n - (k + 1)) 0) := by
  obtain ⟨m, hm⟩ : ∃ m, n - k = m + 1 := ⟨n - k - 1, by omega⟩
  have hm' : n - (k + 1) = m := by omega
  rw [bv_set, hm, hm', List.set_append_right _ _ (by simp), List.replicate_succ' (n := k), List.append_assoc]
  simp [List.replicate_succ]

theorem fill_any (b : UInt8) (n : Nat) (w : World) (hn : n ≤ 65536) :
    Calls Tryd.prog 52 #[.int .u8 (b.toNat : Int), .int .i64 (n : Int)] w (New w.heap.size w (List.replicate n b)) := by
  obtain ⟨i0, hi, hz0, hz1, hz2⟩ := info_parts Tryd.infoU8
  go_enter Tryd.func52, Tryd.ntmps52
  go_wp2_with (at_make; refine wpList_make_full _ rfl _ _ 22 rfl w.heap.size 5 i0 (.int .u8 0) 1 Tryd.underlying22 hi hz0 hz1 _ _ _ _ n rfl rfl rfl rfl ?b2 ?b3 (Nat.le_refl _) ?_)
  case b2 => rw [hz2]; omega
  case b3 => unfold maxLen; omega
  intro w0 hown0 hgrow0
  rw [bv_zero] at hown0
  have hb0 : Below w.heap.size w w0 := (Below.refl _ _).grown hgrow0 (Nat.le_refl _) (fun k h => by cases h)
  clear hgrow0
  go_wp2
  go_loopw [17] (fun i wr => ∃ k : Nat, k ≤ n ∧ i = .int .i64 (k : Int) ∧
      wr.ownsRow w.heap.size 5 1 (.slice (some ⟨w.heap.size, 0, none⟩) n n) n (bv (List.replicate k b ++ List.replicate (n - k) 0)) ∧ Below w.heap.size w wr)
    (fun i _ => n - (intOf i).toNat)
  case atStart => exact ⟨0, Nat.zero_le _, rfl, by simpa using hown0, hb0⟩
  case round =>
    obtain ⟨k, hk, rfl, hown, hbel⟩ := hrel
    by_cases hlt : k < n
    · have hc := hown.cellAt k (by omega)
      have hf := hown.frozenAt k
      have hs := hown.stored k
      rw [bv_at _ _ (by simp; omega)] at hc
      go_wp2
      go_roundw
      case rel =>
        exact ⟨k + 1, by omega, by go_num, by rw [← fill_step b k n hlt]; exact (hs _).1, hbel.setCell (Nat.le_refl _) _⟩
      case measure => simp [intOf]; omega
    · obtain rfl : k = n := by omega
      go_wp2
      go_ret
      exact ⟨_, _, _, rfl, by simpa using hown, hbel⟩

theorem fill_none (b n : Int) (w : World) (hn : n < 0 ∨ 65536 < n) :
    Calls Tryd.prog 52 #[.int .u8 b, .int .i64 n] w fun e w' => e = .returned (.slice none 0 0) ∧ w = w' := by
  rcases hn with hn | hn
  · go_enter Tryd.func52, Tryd.ntmps52
    go_wp2
    go_ret
    exact ⟨rfl, rfl⟩
  · have h0 : ¬ n < 0 := by omega
    go_enter Tryd.func52, Tryd.ntmps52
    go_wp2
    go_ret
    exact ⟨rfl, rfl⟩

/-- 'string(b)' of bytes that read. -/
def xorL (xs ys : List UInt8) : List UInt8 := List.zipWith (· ^^^ ·) xs ys
theorem xorL_length (xs ys : List UInt8) : (xorL xs ys).length = min xs.length ys.length := by simp [xorL]

theorem xor_step (xs ys : List UInt8) (k n n' m : Nat) (hx : xs.length = n) (hy : ys.length = n') (hm : m = min n n') (hk : k < m) :
    (bv ((xorL xs ys).take k ++ List.replicate (m - k) 0)).set k (.int .u8 (bits .xor .u8 ((xs[k]?.getD 0).toNat : Int) ((ys[k]?.getD 0).toNat : Int))) = bv ((xorL xs ys).take (k + 1) ++ List.replicate (m - (k + 1)) 0) := by
  have hl := xorL_length xs ys
  have h1 : k < xs.length := by omega
  have h2 : k < ys.length := by omega
  have hv : bits .xor .u8 ((xs[k]?.getD 0).toNat : Int) ((ys[k]?.getD 0).toNat : Int) = (((xs[k] ^^^ ys[k] : UInt8)).toNat : Int) := by
    simp only [List.getElem?_eq_getElem h1, List.getElem?_eq_getElem h2, Option.getD_some]
    rw [u8_xor_nat _ _ (UInt8.toNat_lt _) (UInt8.toNat_lt _), UInt8.toNat_xor]
  have h3 : k < (xorL xs ys).length := by omega
  obtain ⟨q, hq⟩ : ∃ q, m - k = q + 1 := ⟨m - k - 1, by omega⟩
  have hq' : m - (k + 1) = q := by omega
  rw [hv, bv_set, hq, hq', List.set_append_right _ _ (by simp; omega), List.take_succ_eq_append_getElem h3, List.append_assoc]
  have e : k - ((xorL xs ys).take k).length = 0 := by rw [List.length_take]; omega
  rw [e, List.replicate_succ, List.set_cons_zero]
  simp [xorL]

set_option maxHeartbeats 1000000 in
theorem xor_any (A A' : Option Addr) (n c n' c' : Nat) (xs ys : List UInt8) (w : World) (h1 : Rd w A n c xs) (h2 : Rd w A' n' c' ys) (hn : n ≤ 1000000 ∨ n' ≤ 1000000) :
    Calls Tryd.prog 68 #[.slice A n c, .slice A' n' c'] w (New w.heap.size w (xorL xs ys)) := by
  obtain ⟨i0, hi, hz0, hz1, hz2⟩ := info_parts Tryd.infoU8
  obtain ⟨m, hm⟩ : ∃ m, m = min n n' := ⟨_, rfl⟩
  have HM := Lib.hid hm
  have hmn : m ≤ n := by omega
  have hmn' : m ≤ n' := by omega
  have hmm : m ≤ 1000000 := by omega
  clear hn
  have l1 : n ≤ maxLen := Nat.le_trans h1.cap h1.max
  have l2 : n' ≤ maxLen := Nat.le_trans h2.cap h2.max
  unfold maxLen at l1 l2
  go_enter Tryd.func68, Tryd.ntmps68
  by_cases hle : n ≤ n'
  all_goals
    clear hm
    go_wp2_with (at_make; refine wpList_make_full _ rfl _ _ 22 rfl w.heap.size 5 i0 (.int .u8 0) 1 Tryd.underlying22 hi hz0 hz1 _ _ _ _ m rfl rfl (by have := HM.out; omega) (by have := HM.out; omega) (by rw [hz2]; omega) (by unfold maxLen; omega) (Nat.le_refl _) ?_)
    intro w0 hown0 hgrow0
    rw [bv_zero] at hown0
    have hb0 : Below w.heap.size w w0 := (Below.refl _ _).grown hgrow0 (Nat.le_refl _) (fun k h => by cases h)
    clear hgrow0
    go_wp2
    go_loopw [15] (fun i wr => ∃ k : Nat, k ≤ m ∧ i = .int .i64 (k : Int) ∧
        wr.ownsRow w.heap.size 5 1 (.slice (some ⟨w.heap.size, 0, none⟩) m m) m (bv ((xorL xs ys).take k ++ List.replicate (m - k) 0)) ∧ Below w.heap.size w wr)
      (fun i _ => m - (intOf i).toNat)
    case atStart => exact ⟨0, Nat.zero_le _, rfl, by simpa using hown0, hb0⟩
    case round =>
      obtain ⟨k, hk, rfl, hown, hbel⟩ := hrel
      by_cases hlt : k < m
      · obtain ⟨b1, o1, rfl, hb1, hc1⟩ := (h1.below hbel).at_ (by omega)
        obtain ⟨b2, o2, rfl, hb2, hc2⟩ := (h2.below hbel).at_ (by omega)
        have g1 := hc1 k (by omega)
        have g2 := hc2 k (by omega)
        have hc := hown.cellAt k (by omega)
        have hf := hown.frozenAt k
        have hs := hown.stored k
        have hin1 : (k : Int) < n := by omega
        have hin2 : (k : Int) < n' := by omega
        rw [bv_at _ _ (by have := HM.out; have e1 := h1.len; have e2 := h2.len; simp [xorL_length]; omega)] at hc
        clear hc1 hc2
        go_wp2
        go_region
        all_goals
          go_wp2
          go_roundw
          case rel => exact ⟨k + 1, by omega, by go_num, by rw [← xor_step xs ys k n n' m h1.len h2.len HM.out hlt]; exact (hs _).1.drew, (hbel.setCell (Nat.le_refl _) _).drew⟩
          case measure => simp [intOf]; omega
      · obtain rfl : k = m := by omega
        have e : (xorL xs ys).take k = xorL xs ys := List.take_of_length_le (by have := HM.out; have e1 := h1.len; have e2 := h2.len; simp [xorL_length]; omega)
        go_wp2
        go_ret
        exact ⟨_, _, _, rfl, by simpa [e] using hown, hbel⟩
end Go.Proofs.YtnejepidbahjdaaDoor

/-
  What the landed digits' small calls do: May, greatest; the library's Len. No statement is proved here.
-/
namespace Go.Proofs.YtnejepidbahjdaaDoor.S7
set_option linter.unusedSimpArgs false
set_option linter.unusedVariables false
set_option maxRecDepth 1024
open Go.RowKit

/-- The table of widths lies in its variable. -/
def WOk (w : World) : Prop := ∀ i, i < 4 → w.cell? ⟨0, i, none⟩ = some (.int .i64 (([1, 2, 4, 8] : List Int).getD i 0)) ∧ 0 < w.heap.size
theorem WOk.below {w w' : World} (h : WOk w) (hb : Below w.heap.size w w') : WOk w' := fun i hi => ⟨(hb.cell (h i hi).2).trans (h i hi).1, Nat.lt_of_lt_of_le (h i hi).2 hb.size⟩
theorem run_index_agg {P : Program} {T e : TypeId} {n : Nat} (hT : P.underlying T = some (.array n e)) (he : (P.info? e).map (·.size) = some 1) {ke : IntKind} (hu : P.underlying e = some (.int ke)) (cs : Array Value) (k : IntKind) (i : Int) (h0 : 0 ≤ i) (h1 : i < n) (v : Value) (hi : cs[i.toNat]? = some v)
    (h1v : v.oneCell' = true) (W : World) : (Instr.index T (.agg cs) (.int k i)).run P W = .ok v W := by
  cases hq : P.info? e with
  | none => simp [hq] at he
  | some i0 =>
    have hs : i0.size = 1 := by simpa [hq] using he
    simp [Instr.index, asIntOf, run_underlying hT, run_underlying hu, h0, h1, part, isAgg, sizeOf, typeInfo, hq, hs, hi]
theorem may_none {w : Int} (h : mayB w = false) : w ≠ 1 ∧ w ≠ 2 ∧ w ≠ 4 ∧ w ≠ 8 := by
  simp only [mayB, Bool.or_eq_false_iff, beq_eq_false_iff_ne] at h
  exact ⟨h.1.1.1, h.1.1.2, h.1.2, h.2⟩
theorem tab_mem (k : Nat) (hk : k < 4) : mayB (([1, 2, 4, 8] : List Int).getD k 0) = true := by
  obtain rfl | rfl | rfl | rfl : k = 0 ∨ k = 1 ∨ k = 2 ∨ k = 3 := by omega
  all_goals decide
theorem may_any (w : Int) (W : World) (h : WOk W) : Calls Tryd.prog 59 #[.int .i64 w] W fun e W' => e = .returned (.bool (mayB w)) ∧ W = W' := by
  have c0 := (h 0 (by omega)).1
  have c1 := (h 1 (by omega)).1
  have c2 := (h 2 (by omega)).1
  have c3 := (h 3 (by omega)).1
  have hd : ([1, 2, 4, 8] : List Int).getD 0 0 = 1 ∧ ([1, 2, 4, 8] : List Int).getD 1 0 = 2 ∧ ([1, 2, 4, 8] : List Int).getD 2 0 = 4 ∧ ([1, 2, 4, 8] : List Int).getD 3 0 = 8 := by decide
  rw [hd.1] at c0
  rw [hd.2.1] at c1
  rw [hd.2.2.1] at c2
  rw [hd.2.2.2] at c3
  obtain ⟨R, hR⟩ : ∃ R, R = mayB w := ⟨_, rfl⟩
  rw [← hR]
  have HR := Lib.hid hR
  clear hd h hR
  go_enter Tryd.func59, Tryd.ntmps59
  go_wp2
  go_loopw [6] (fun i wr => ∃ k : Nat, k ≤ 4 ∧ i = .int .i64 (k : Int) ∧ W = wr ∧ Hid (∀ j, j < k → w ≠ ([1, 2, 4, 8] : List Int).getD j 0)) (fun i _ => 4 - (intOf i).toNat)
  case atStart => exact ⟨0, Nat.zero_le _, rfl, rfl, Lib.hid (fun j hj => absurd hj (by omega))⟩
  case round =>
    obtain ⟨k, hk, rfl, rfl, hn⟩ := hrel
    by_cases hlt : k < 4
    · have i1 : (k : Int) < 4 := by omega
      obtain ⟨X, hX⟩ : ∃ X, X = ([1, 2, 4, 8] : List Int).getD k 0 := ⟨_, rfl⟩
      have HX := Lib.hid hX
      have hrun := fun W => run_index_agg (P := Tryd.prog) (T := 82) Tryd.underlying82 (by kernel_rfl) Tryd.underlying3 #[.int .i64 1, .int .i64 2, .int .i64 4, .int .i64 8] .i64 (k : Int) (by omega) (by omega) (.int .i64 X) (by
        rw [Int.toNat_natCast, hX]
        obtain rfl | rfl | rfl | rfl : k = 0 ∨ k = 1 ∨ k = 2 ∨ k = 3 := by omega
        all_goals rfl) rfl W
      clear hX
      by_cases he : w = X
      · subst he
        have HE := Lib.hid (show mayB w = true by rw [HX.out]; exact tab_mem k hlt)
        go_wp2
        go_ret
        exact ⟨by rw [HR.out, HE.out]; rfl, rfl⟩
      · go_wp2
        go_roundw
        case rel => exact ⟨k + 1, by omega, by go_num, trivial, Lib.hid (fun j hj => by
          by_cases hjk : j < k
          · exact hn.out j hjk
          · obtain rfl : j = k := by omega
            rw [← HX.out]; exact he)⟩
        case measure => simp [intOf]; omega
    · obtain rfl : k = 4 := by omega
      have i1 : ¬ (4 : Int) < 4 := by omega
      have HF := Lib.hid (show mayB w = false by
        have h9 := hn.out
        have e0 := h9 0 (by omega)
        have e1 := h9 1 (by omega)
        have e2 := h9 2 (by omega)
        have e3 := h9 3 (by omega)
        simp at e0 e1 e2 e3
        simp [mayB, e0, e1, e2, e3])
      go_wp2
      go_ret
      exact ⟨by rw [HR.out, HF.out]; rfl, rfl⟩
theorem great_any (v : Nat) (hv : wid v) (W : World) : Calls Tryd.prog 60 #[.int .i64 (v : Int)] W fun e W' => e = .returned (.int .i64 ((2 ^ v - 1 : Nat) : Int)) ∧ W = W' := by
  rcases hv with rfl | rfl | rfl | rfl <;>
  · go_enter Tryd.func60, Tryd.ntmps60
    go_wp2_with (simp only [↓fold8])
    go_ret
    exact ⟨rfl, rfl⟩
set_option maxRecDepth 100000 in
theorem fold8 : (⟨((([0, 1, 2, 2, 3, 3, 3, 3, 4, 4, 4, 4, 4, 4, 4, 4, 5, 5, 5, 5, 5, 5, 5, 5, 5, 5, 5, 5, 5, 5, 5, 5, 6, 6, 6, 6, 6, 6, 6, 6, 6, 6, 6, 6, 6, 6, 6, 6, 6, 6, 6, 6, 6, 6, 6, 6, 6, 6, 6, 6, 6, 6, 6, 6] : List UInt8).append [7, 7, 7, 7, 7, 7, 7, 7, 7, 7, 7, 7, 7, 7, 7, 7, 7, 7, 7, 7, 7, 7, 7, 7, 7, 7, 7, 7, 7, 7, 7, 7, 7, 7, 7, 7, 7, 7, 7, 7, 7, 7, 7, 7, 7, 7, 7, 7, 7, 7, 7, 7, 7, 7, 7, 7, 7, 7, 7, 7, 7, 7, 7, 7]).append (([8, 8, 8, 8, 8, 8, 8, 8, 8, 8, 8, 8, 8, 8, 8, 8, 8, 8, 8, 8, 8, 8, 8, 8, 8, 8, 8, 8, 8, 8, 8, 8, 8, 8, 8, 8, 8, 8, 8, 8, 8, 8, 8, 8, 8, 8, 8, 8, 8, 8, 8, 8, 8, 8, 8, 8, 8, 8, 8, 8, 8, 8, 8, 8] : List UInt8).append [8, 8, 8, 8, 8, 8, 8, 8, 8, 8, 8, 8, 8, 8, 8, 8, 8, 8, 8, 8, 8, 8, 8, 8, 8, 8, 8, 8, 8, 8, 8, 8, 8, 8, 8, 8, 8, 8, 8, 8, 8, 8, 8, 8, 8, 8, 8, 8, 8, 8, 8, 8, 8, 8, 8, 8, 8, 8, 8, 8, 8, 8, 8, 8])).toArray⟩ : ByteArray) = Lib.len8tab := rfl

set_option maxHeartbeats 4000000 in
set_option maxRecDepth 100000 in
theorem len64_any (X : Nat) (hX : X < 65536) (W : World) : Calls Tryd.prog 71 #[.int .u64 (X : Int)] W fun e W' => e = .returned (.int .i64 ((Lib.bitLen X : Nat) : Int)) ∧ W = W' := by
  have h1 : ¬ (4294967296 : Int) ≤ (X : Int) := by omega
  have h2 : ¬ (65536 : Int) ≤ (X : Int) := by omega
  by_cases h3 : X < 256
  · have h4 : ¬ (256 : Int) ≤ (X : Int) := by omega
    have hrun := fun W => Lib.run_index_len8tab (P := Tryd.prog) W 9 .u8 (X : Int) Tryd.underlying9 (by omega) (by omega)
    have e1 : Lib.len8 (X : Int) = ((Lib.bitLen X : Nat) : Int) := by rw [Lib.len8_of _ (by omega) (by omega), Int.toNat_natCast]
    have hB : Lib.bitLen X ≤ 8 := by
      have := Lib.bitLen_le8' (X : Int) (by omega) (by omega)
      rwa [Int.toNat_natCast] at this
    rw [e1] at hrun
    obtain ⟨B, hB0⟩ : ∃ B, B = Lib.bitLen X := ⟨_, rfl⟩
    rw [← hB0] at hrun hB ⊢
    clear e1 hB0
    refine calls_of_wp Tryd.func71 rfl ?_
    rw [fold8]
    obtain ⟨T, hT⟩ : ∃ T, T = Lib.len8tab := ⟨_, rfl⟩
    rw [← hT] at hrun ⊢
    clear hT
    simp only [Tryd.ntmps71, List.size_toArray, List.length_cons, List.length_nil, Nat.reduceAdd, Nat.reduceSub, Array.replicate_succ, Array.replicate_zero, List.push_toArray, List.append_toArray, List.nil_append, List.cons_append]
    go_wp2
    go_ret
    exact ⟨rfl, rfl⟩
  · have h4 : (256 : Int) ≤ (X : Int) := by omega
    obtain ⟨Y, hY⟩ : ∃ Y, Y = X / 256 := ⟨_, rfl⟩
    have hrun := fun W => Lib.run_index_len8tab (P := Tryd.prog) W 9 .u8 (Y : Int) Tryd.underlying9 (by omega) (by omega)
    have e1 : Lib.len8 (Y : Int) = ((Lib.bitLen Y : Nat) : Int) := by rw [Lib.len8_of _ (by omega) (by omega), Int.toNat_natCast]
    have e2 : Lib.bitLen X = 8 + Lib.bitLen Y := by rw [hY]; exact Lib.bitLen_shift8 X (by omega) (by omega)
    have hB : Lib.bitLen Y ≤ 8 := by
      have := Lib.bitLen_le8' (Y : Int) (by omega) (by omega)
      rwa [Int.toNat_natCast] at this
    rw [e1] at hrun
    rw [e2]
    obtain ⟨B, hB0⟩ : ∃ B, B = Lib.bitLen Y := ⟨_, rfl⟩
    rw [← hB0] at hrun hB ⊢
    have y1 : (X : Int) / 256 = (Y : Int) := by omega
    have y2 : Y < 256 := by omega
    clear e1 hB0 e2 hY
    refine calls_of_wp Tryd.func71 rfl ?_
    rw [fold8]
    obtain ⟨T, hT⟩ : ∃ T, T = Lib.len8tab := ⟨_, rfl⟩
    rw [← hT] at hrun ⊢
    clear hT
    simp only [Tryd.ntmps71, List.size_toArray, List.length_cons, List.length_nil, Nat.reduceAdd, Nat.reduceSub, Array.replicate_succ, Array.replicate_zero, List.push_toArray, List.append_toArray, List.nil_append, List.cons_append]
    go_wp2
    go_ret
    exact ⟨by go_num, rfl⟩
theorem len_any (X : Nat) (hX : X < 65536) (W : World) : Calls Tryd.prog 61 #[.int .u64 (X : Int)] W fun e W' => e = .returned (.int .i64 ((Lib.bitLen X : Nat) : Int)) ∧ W = W' := by
  obtain ⟨B, hB0⟩ : ∃ B, B = Lib.bitLen X := ⟨_, rfl⟩
  have HL := Lib.hid (fun W => len64_any X hX W)
  rw [← hB0] at HL ⊢
  clear hB0
  go_enter Tryd.func61, Tryd.ntmps61
  go_wp2_with (go_at_call 71; ((with_reducible refine (HL.out _).mono ?_); rintro e w1 ⟨rfl, rfl⟩))
  go_ret
  exact ⟨rfl, rfl⟩
end Go.Proofs.YtnejepidbahjdaaDoor.S7

/-
  Digits by their places, in plain words: the digit k of byte i; a byte raised by one digit's one. No statement is proved here.
-/
namespace Go.Proofs.YtnejepidbahjdaaDoor.S7
set_option linter.unusedSimpArgs false
set_option linter.unusedVariables false
set_option maxRecDepth 1024

theorem ofL_pos (w : Nat) (hw : wid w) (xs : List UInt8) (i k : Nat) (hi : i < xs.length) (hk : k < 8 / w) : (ofL w xs)[i * (8 / w) + k]? = some (dg w (xs.getD i 0).toNat k) := by
  have h9 : 0 < 8 / w := by omega
  have hl : i * (8 / w) + k < xs.length * (8 / w) := by
    have : (i + 1) * (8 / w) ≤ xs.length * (8 / w) := Nat.mul_le_mul_right _ hi
    rw [Nat.succ_mul] at this
    omega
  have hc : ∀ q, w * q / 8 = q / (8 / w) ∧ w * q % 8 / w = q % (8 / w) := by
    intro q
    rcases hw with h | h | h | h <;> subst h <;> simp <;> omega
  rw [ofL_at w hw xs _ hl, (hc _).1, (hc _).2]
  have e1 : (i * (8 / w) + k) / (8 / w) = i := by
    rw [Nat.mul_comm, Nat.mul_add_div h9, Nat.div_eq_of_lt hk, Nat.add_zero]
  have e2 : (i * (8 / w) + k) % (8 / w) = k := by
    rw [Nat.mul_comm, Nat.mul_add_mod, Nat.mod_eq_of_lt hk]
  rw [e1, e2]
theorem ofB_take (w x k : Nat) (hk : k < 8 / w) : (ofB w x).take (k + 1) = (ofB w x).take k ++ [dg w x k] := by
  rw [List.take_add_one]
  simp [ofB, hk]
theorem val_le (w x k : Nat) (hw : wid w) (hx : x < 256) (hk : k ≤ 8 / w) : val (2 ^ w) ((ofB w x).take k) ≤ x := by
  have h8 := wid_div hw
  have hwk : w * k ≤ 8 := by
    have := Nat.mul_le_mul_left w hk
    omega
  have e : (ofB w x).take k = (List.range k).map fun i => x / 2 ^ (8 - w * (i + 1)) % 2 ^ w := by
    unfold ofB
    rw [← List.map_take, List.take_range, Nat.min_eq_left hk]
    rfl
  rw [e, val_take w 8 x k hwk hx]
  exact Nat.div_le_self _ _
theorem lk_bound (w : Nat) (hw : wid w) (ds : List Nat) (j : Nat) : lk w (ds.take j) ≤ 255 * ds.length := by
  have h1 := lk_le w (ds.take j)
  have h2 : (2 ^ w - 1) ≤ 255 := by rcases hw with h | h | h | h <;> subst h <;> decide
  exact Nat.le_trans h1 (Nat.mul_le_mul h2 (by rw [List.length_take]; omega))
theorem lk_step (w : Nat) (xs : List Nat) (j d : Nat) (h : xs[j]? = some d) : lk w (xs.take (j + 1)) = lk w (xs.take j) + (2 ^ w - 1 - d) := by
  rw [List.take_add_one, h, lk_append]
  simp [lk]
end Go.Proofs.YtnejepidbahjdaaDoor.S7
