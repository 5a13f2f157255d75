/-
  The document's own disk: what is read. No statement is proved here.
-/
import Derived.Test.YtammgingmkdfhaaDk8
namespace Go.Proofs.Ytammgingmkdfhaa.S19
set_option linter.unusedSimpArgs false
set_option linter.unusedVariables false
set_option maxRecDepth 4096
open Go.RowKit

theorem own_cellB {w : World} {B e n c : Nat} {A : Option Addr} {xs : List Value} (h : w.ownsRow B e 1 (.slice A n c) n xs) {j : Nat} (hj : j < n) : ∃ b, A = some ⟨b, 0, none⟩ ∧ b < w.heap.size ∧ w.cell? ⟨b, j, none⟩ = xs[j]? ∧ w.frozen? ⟨b, j, none⟩ = false := by
  rcases h.2 with ⟨h1, h2⟩ | ⟨g, cap, cur, h1, _, hh, _⟩
  · omega
  · injection h1 with h1 h2 h3
    subst h1 h3
    exact ⟨g, rfl, (Array.getElem?_eq_some_iff.1 hh).1, h.cellAt j (by omega), h.frozenAt j⟩
theorem lastOf_take (i : Nat) (ps : List (Nat × List UInt8)) (b : List UInt8) (k : Nat) (hk : k < ps.length) : Dk.lastOf i (ps.take (k + 1)) b = if (ps.getD k (0, [])).1 = i then (ps.getD k (0, [])).2 else Dk.lastOf i (ps.take k) b := by
  have e : ps.take (k + 1) = ps.take k ++ [((ps.getD k (0, [])).1, (ps.getD k (0, [])).2)] := by
    have e0 : ((ps.getD k (0, [])).1, (ps.getD k (0, [])).2) = ps[k] := by simp [List.getD, hk]
    rw [e0, List.take_add_one, List.getElem?_eq_getElem hk]
    rfl
  rw [e, Dk.lastOf_append]
theorem pendZ_at (ps : List (Nat × List UInt8)) (k : Nat) (hk : k < ps.length) : (zv (pendZ ps))[k]? = some (.int .i64 ((ps.getD k (0, [])).1 : Int)) := by
  simp [zv, pendZ, hk, List.getD]
def GivesRead (D : Dk) (i : Int) (w : World) (e : Ending) (w' : World) : Prop := ∃ A c, e = .returned (.tuple #[.slice A (D.readB i).length c, .int .i64 (D.readC i : Int)]) ∧ Rd w' A (D.readB i).length c (D.readB i) ∧ (∀ a, 0 < (D.readB i).length → A = some a → w.heap.size ≤ a.block) ∧ Below w.heap.size w w'
set_option maxHeartbeats 4000000 in
theorem rreadD_any {L : Value} (N : Nat) (w : World) (h : Nat) (D : Dk) (G : Nat → Prop) (r : Rk N w h L D G) (i : Int) : Calls Try.prog 27 #[.pointer (some ⟨h, 0, none⟩), .int .i64 i] w (GivesRead D i w) := by
  obtain ⟨V, hb, hr⟩ := r.ex
  have hok := r.ok
  have c7 : w.cell? ⟨h, 7, none⟩ = some (.bool D.off) := hb.cell 7
  have c1 : w.cell? ⟨h, 1, none⟩ = some V.vS := hb.cell 1
  have c2 : w.cell? ⟨h, 2, none⟩ = some V.vW := hb.cell 2
  have c3 : w.cell? ⟨h, 3, none⟩ = some V.vB := hb.cell 3
  obtain ⟨AS, cS, eS⟩ := own_form hr.oS
  rw [eS] at c1
  have hnil : ∀ c : Nat, D.readC i = c → c ≠ 0 → ∀ X, Below w.heap.size w X → GivesRead D i w (.returned (.tuple #[.slice none 0 0, .int .i64 (c : Int)])) X := by
    intro c hc h0 X hX
    have e : D.readB i = [] := by rw [Dk.readB, if_neg (by rw [hc]; exact h0)]
    refine ⟨none, 0, ?_, ?_, ?_, hX⟩
    · rw [e, hc]; rfl
    · rw [e]; exact Rd.nil_ _
    · rw [e]; intro a h1; cases h1
  cases ho : D.off
  case true =>
    rw [ho] at c7
    have HN := Lib.hid (hnil 6 (by rw [Dk.readC, if_pos ho]) (by omega))
    clear hb hr hok r c1 c2 c3 hnil
    go_enter Try.func27, Try.ntmps27
    go_wp2_with (fail)
    go_ret2
    exact HN.out _ (Below.refl _ _)
  case false =>
    rw [ho] at c7
    by_cases hh : D.has i
    case neg =>
      have HN := Lib.hid (hnil 1 (by rw [Dk.readC, ho, if_neg (by simp), if_neg hh]) (by omega))
      by_cases h0 : i < 0
      · clear hb hr hok r c2 c3 hnil hh
        go_enter Try.func27, Try.ntmps27
        go_wp2_with (fail)
        go_ret2
        exact HN.out _ (Below.refl _ _)
      · have h1 : (D.sure.length : Int) ≤ i := by unfold Dk.has at hh; omega
        generalize D.sure.length = sl at *
        clear hb hr hok r c2 c3 hnil hh
        go_enter Try.func27, Try.ntmps27
        go_wp2_with (fail)
        go_ret2
        exact HN.out _ (Below.refl _ _)
    case pos =>
      have hi0 : 0 ≤ i := hh.1
      obtain ⟨ii, rfl⟩ := Int.eq_ofNat_of_zero_le hi0
      have hlt : ii < D.sure.length := by have := hh.2; omega
      have hrc : D.readC ii = 0 := by rw [Dk.readC, ho, if_neg (by simp), if_pos hh]
      have hrb : D.readB ii = D.atS ii := by rw [Dk.readB, if_pos hrc]; rfl
      have hl64 : (D.atS ii).length = 64 := Dk.atS_len hok hlt
      have hp64 : ∀ p ∈ D.pend, p.2.length = 64 := fun p hp => (hok.pend p hp).2
      have hs64 : (D.sure.getD ii []).length = 64 := hok.rows _ (by rw [List.getD_eq_getElem?_getD, List.getElem?_eq_getElem hlt]; simp)
      obtain ⟨AW, cW, eW⟩ := own_form hr.oW
      obtain ⟨AB, cB, eB⟩ := own_form hr.oB
      rw [pendZ_len] at eW
      rw [pendR_len] at eB
      rw [eW] at c2
      rw [eB] at c3
      have OW := hr.oW
      have OB := hr.oB
      rw [pendZ_len] at OW
      rw [pendR_len] at OB
      have OS := hr.oS
      rw [eW] at OW
      rw [eB] at OB
      rw [eS] at OS
      obtain ⟨bS, rfl, hbS, hcS, _⟩ := own_cellB OS hlt
      obtain ⟨A0, n0, c0, e0, r0, g0⟩ := hr.rS ii hlt
      rw [e0] at hcS
      have R0 := Lib.hid r0
      have HR := Lib.hid hr
      have HOW := Lib.hid OW
      have HOB := Lib.hid OB
      obtain ⟨sl, hsl⟩ : ∃ sl, sl = D.sure.length := ⟨_, rfl⟩
      rw [← hsl] at hlt c1
      obtain ⟨pl, hpl⟩ : ∃ pl, pl = D.pend.length := ⟨_, rfl⟩
      rw [← hpl] at c2 c3
      have HPL := Lib.hid hpl
      have HFIN := Lib.hid (show ∀ (A : Option Addr) (c : Nat) (X : World), Rd X A 64 c (D.atS ii) → (∀ a, A = some a → w.heap.size ≤ a.block) → Below w.heap.size w X → GivesRead D ii w (.returned (.tuple #[.slice A 64 c, .int .i64 0])) X from fun A c X h1 h2 h3 => by
        refine ⟨A, c, ?_, ?_, fun a _ e => h2 a e, h3⟩
        · rw [hrb, hl64, hrc]; rfl
        · rw [hrb, hl64]; exact h1)
      have H64 := Lib.hid (show ∀ k, (Dk.lastOf ii (D.pend.take k) (D.sure.getD ii [])).length = 64 from fun k => Dk.lastOf_len _ _ (fun p hp => hp64 p (List.mem_of_mem_take hp)) hs64)
      have HAT := Lib.hid (show Dk.lastOf ii (D.pend.take pl) (D.sure.getD ii []) = D.atS ii by rw [hpl, List.take_length]; rfl)
      have HMX := Lib.hid (show pl ≤ 9223372036854775807 from by
        have h1 := (RI.own OW).cap
        have h2 := (RI.own OW).max
        unfold maxLen at h2
        omega)
      have HGN := Lib.hid (show N ≤ w.heap.size by have := (hr.gN h (hr.inG h (.inl rfl))); omega)
      have t0 : ¬ (ii : Int) < 0 := by omega
      have t1 : ¬ (sl : Int) ≤ (ii : Int) := by omega
      have t2 : (ii : Int) < (sl : Int) := by omega
      clear hb hr hok r hnil hh hi0 hrc hrb hl64 hp64 hs64 OW OB OS e0 r0 g0 hpl hsl eS eW eB
      go_enter Try.func27, Try.ntmps27
      go_wp2_with (fail)
      clear t1 t2 hcS c1
      obtain ⟨wo, rfl⟩ : ∃ wo : World, wo = w := ⟨_, rfl⟩
      go_loopw [6, 7] (fun bv kv wi => ∃ (k : Nat) (Ab : Option Addr) (nb cb : Nat), k ≤ pl ∧ kv = .int .i64 (k : Int) ∧ bv = .slice Ab nb cb ∧ Rd wo Ab nb cb (Dk.lastOf ii (D.pend.take k) (D.sure.getD ii [])) ∧ wi = wo)
        (fun _ kv _ => pl - (intOf kv).toNat)
      case atStart => exact ⟨0, A0, n0, c0, Nat.zero_le _, rfl, rfl, by rw [List.take_zero]; exact R0.out, rfl⟩
      case round =>
        obtain ⟨k, Ab, nb, cb, hk, rfl, rfl, hrd, rfl⟩ := hrel
        have RB := Lib.hid hrd
        clear hrd R0
        have hmx := HMX.out
        by_cases hlk : k < pl
        · have t5 : (k : Int) < (pl : Int) := by omega
          have hlk' : k < D.pend.length := by have := HPL.out; omega
          obtain ⟨bW, eW, hbW, hcW, _⟩ := own_cellB HOW.out hlk'
          obtain ⟨bB, eB, hbB, hcB, _⟩ := own_cellB HOB.out hlk'
          obtain ⟨A1, n1, c1', e1, r1, _⟩ := HR.out.rB k (by rw [pendR_len]; exact hlk')
          rw [pendR_at] at r1
          rw [pendZ_at _ _ hlk'] at hcW
          rw [e1] at hcB
          rw [eW] at c2
          rw [eB] at c3
          have STEP := lastOf_take ii D.pend (D.sure.getD ii []) k hlk'
          obtain ⟨pw, hpw⟩ : ∃ pw, pw = (D.pend.getD k (0, [])).1 := ⟨_, rfl⟩
          rw [← hpw] at hcW STEP
          by_cases hpi : pw = ii
          · rw [if_pos hpi] at STEP
            have HST := Lib.hid STEP
            have R1 := Lib.hid r1
            have y1 : ((pw : Int) == (ii : Int)) = true := by simp [hpi]
            have HEW := Lib.hid eW
            have HEB := Lib.hid eB
            clear STEP hpi hpw r1 e1 hbW hbB eW eB hlk'
            go_wp2_with (fail)
            go_roundw
            case rel => exact ⟨k + 1, A1, n1, c1', by omega, by go_num, rfl, by rw [HST.out]; exact R1.out, trivial⟩
            case measure => simp [intOf]; omega
          · rw [if_neg hpi] at STEP
            have HST := Lib.hid STEP
            have y1 : ((pw : Int) == (ii : Int)) = false := by simp; omega
            have HEW := Lib.hid eW
            have HEB := Lib.hid eB
            clear STEP hpi hpw r1 e1 hbW hbB eW eB hlk'
            go_wp2_with (fail)
            go_roundw
            case rel => exact ⟨k + 1, Ab, nb, cb, by omega, by go_num, rfl, by rw [HST.out]; exact RB.out, trivial⟩
            case measure => simp [intOf]; omega
        · have t5 : ¬ (k : Int) < (pl : Int) := by omega
          obtain rfl : k = pl := by omega
          have R2 := Lib.hid (show Rd wr Ab nb cb (D.atS ii) by rw [← HAT.out]; exact RB.out)
          obtain rfl : nb = 64 := RB.out.len.symm.trans (H64.out k)
          go_wp2_with (at_builtin; refine append_rd rfl (.tmp 55) (.tmp 56) rfl wr.heap.size _ 0 [] rfl (World.ownsRow_lit (base := wr.heap.size) (e := 5) (size := 1) wr #[] 0 (Nat.le_refl _) (by simp [maxLen]) rfl) Ab 64 cb _ rfl (R2.out.alloc _) (by omega) (by simp) ?_; intro v5 w5 o5 g5; obtain ⟨A5, c5, rfl⟩ := own_form o5; have O5 := Lib.hid (own_n o5); have B5 := Lib.hid (((Below.refl wr.heap.size wr).alloc (Nat.le_refl _) _).grown g5 (by simp) (fun q hq => Nat.le_of_eq (Option.some.inj hq))); clear o5 g5)
          go_ret2
          exact HFIN.out A5 c5 _ (Rd.own O5.out) (fun a e => by rw [e] at O5; exact (O5.out.lt a.block rfl).1) B5.out
end Go.Proofs.Ytammgingmkdfhaa.S19
