/-
  The call of the statement OctetPairs of layer 1.
-/
import Derived.Test.YtgiocloegmpehaaLawB
import Derived.Deep.DrawnRows
namespace Go.Proofs.Ytgiocloegmpehaa
set_option linter.unusedSimpArgs false
set_option linter.unusedVariables false
open Go.RowKit

def fillI (b : UInt8) (n : Int) : List UInt8 := if 0 ≤ n ∧ n ≤ 65536 then List.replicate n.toNat b else []
theorem fill_at (b : UInt8) (n : Int) (w : World) :
    Calls Try.prog 16 #[.int .u8 (b.toNat : Int), .int .i64 n] w (New w.heap.size w (fillI b n)) := by
  unfold fillI
  split
  · rename_i h
    obtain ⟨k, rfl⟩ := Int.eq_ofNat_of_zero_le h.1
    exact fill_any b k w (by omega)
  · exact (fill_none b.toNat n w (by omega)).mono fun e w' ⟨h1, h2⟩ => by subst h1 h2; exact New.nil_ w
theorem rfill_at (b : UInt8) (n : Int) (w : World) :
    Calls Try.prog 17 #[.int .u8 (b.toNat : Int), .int .i64 n] w (New w.heap.size w (fillI b n)) := by
  unfold fillI
  split
  · rename_i h
    obtain ⟨k, rfl⟩ := Int.eq_ofNat_of_zero_le h.1
    exact rfill_any b k w (by omega)
  · exact (rfill_none b.toNat n w (by omega)).mono fun e w' ⟨h1, h2⟩ => by subst h1 h2; exact New.nil_ w

theorem rsame_is (r : Bool) (A A' : Option Addr) (n c n' c' : Nat) (xs ys : List UInt8) (w : World) (h1 : Rd w A n c xs) (h2 : Rd w A' n' c' ys) (he : sameB xs ys = r) :
    Calls Try.prog 12 #[.slice A n c, .slice A' n' c'] w fun e w' => e = .returned (.bool r) ∧ Below w.heap.size w w' :=
  (rsame_any A A' n c n' c' xs ys w h1 h2).mono fun e w' ⟨h, q, hq⟩ => ⟨by rw [h, he], by rw [hq]; exact ⟨rfl, rfl, rfl, Nat.le_refl _, fun _ _ => rfl⟩⟩
theorem same_is (r : Bool) (A A' : Option Addr) (n c n' c' : Nat) (xs ys : List UInt8) (w : World) (h1 : Rd w A n c xs) (h2 : Rd w A' n' c' ys) (he : sameB xs ys = r) :
    Calls Try.prog 15 #[.slice A n c, .slice A' n' c'] w fun e w' => e = .returned (.bool r) ∧ w = w' :=
  (same_any A A' n c n' c' xs ys w h1 h2).mono fun e w' ⟨h, hq⟩ => ⟨by rw [h, he], hq⟩
theorem run_min2b {P : Program} (ts : Array TypeId) (t : TypeId) (k : IntKind) (a b r : Int) (h : min a b = r) (w : World) :
    (Builtin.min_ ts t #[.int k a, .int k b]).run P w = .ok (.int k r) w := by
  subst h
  simp [Builtin.min_, List.foldlM, run_min2]
/-- octet.Xor, its answer's length m. -/
theorem xor_l (m : Nat) (A A' : Option Addr) (n c n' c' : Nat) (xs ys : List UInt8) (w : World) (h1 : Rd w A n c xs) (h2 : Rd w A' n' c' ys) (hm : m = min n n') (hn : m ≤ 1000000) :
    Calls Try.prog 14 #[.slice A n c, .slice A' n' c'] w fun e w' => ∃ (D : Option Addr) (d : Nat), e = .returned (.slice D m d) ∧ Rd w' D m d (xorL xs ys) ∧ Below w.heap.size w w' := by
  refine (xor_any A A' n c n' c' xs ys w h1 h2 (by omega)).mono ?_
  rintro e w' ⟨D, l, d, rfl, ho, hb⟩
  obtain rfl : m = l := by
    have e1 := own_len ho
    have e2 := h1.len
    have e3 := h2.len
    rw [xorL_length] at e1
    omega
  exact ⟨D, d, rfl, Rd.own ho, hb⟩

theorem news_rd {w : World} {ad : Addr} {m c : Nat} {ys : List UInt8} (hr : Rd w (some ad) m c ys) : ∀ j u, (bv ys)[j]? = some u → w.cell? (ad.add j) = some u := by
  intro j u hj
  have hl := hr.len
  have hjl : j < ys.length := by
    rcases Nat.lt_or_ge j ys.length with h | h
    · exact h
    · rw [List.getElem?_eq_none (by simpa [bv_length] using h)] at hj; cases hj
  obtain ⟨b, off, e, _, hc⟩ := hr.at_ (by omega)
  injection e with e
  subst e
  have hp : (⟨b, off, none⟩ : Addr).add j = ⟨b, off + j, none⟩ := by unfold Addr.add; split <;> simp_all
  rw [bv_at ys j hjl] at hj
  rw [hp, hc j (by omega), ← hj]
  simp [List.getD, hjl]

/-- append at a step of a region that draws its order; where the new row lies. -/
theorem step_append_rd {w : World} {ops : Array Oper} {o : Oper} {a : Act} {K : Act → World → Prop} {Q : Exit → Act → World → Prop} {E : Prop} (hw : Region.wanted o (yielded ops a.tmps) = true) (s x : Operand)
    (ho : o.op = .call { callee := .builtin .append, args := #[s, x], argTypes := #[23, 23] })
    (base : Nat) (v : Value) (n : Nat) (xs : List UInt8) (hs : a.eval s = v) (hown : w.ownsRow base 5 1 v n (bv xs))
    (A : Option Addr) (m c : Nat) (ys : List UInt8) (hx : a.eval x = .slice A m c) (hr : Rd w A m c ys) (hb : n + m ≤ 140737488355328) (hbase : base ≤ w.heap.size)
    (h : ∀ v' w', w'.ownsRow base 5 1 v' (n + m) (bv (xs ++ ys)) → w.grownBy w' v.ownBlock → (v'.ownBlock = v.ownBlock ∨ v'.ownBlock = some w.heap.size) → K (a.put o.dst v') w') :
    if Region.wanted o (yielded ops a.tmps) = true then Oper.wp Try.prog o a w K Q else E := by
  obtain ⟨i0, hi, hz0, hz1, hz2⟩ := info_parts Try.infoU8
  rw [if_pos hw]
  rcases A with _ | ad
  · have hc := hr.nil rfl
    have hm : m = 0 := by have := hr.cap; omega
    subst hc hm
    obtain rfl : ys = [] := List.eq_nil_of_length_eq_zero hr.len
    have hrun := run_append_owned_none (P := Try.prog) (w := w) base 23 o.type 5 i0 1 Try.underlying23 hi v n (bv xs) hown
    unfold Oper.wp
    simp [execOp, ho, resolve, invoke, builtin, hs, hx, hrun, Result.andThen]
    exact h v w (by simpa using hown) (World.grownBy.refl _ _) (.inl rfl)
  · obtain ⟨v', w', hrun, h2, h3, _, h5⟩ := run_append_own_at (P := Try.prog) w base 23 o.type 5 i0 (.int .u8 0) 1 1 Try.underlying23 hi hz0 hz1 hz2 rfl (by omega) v n (bv xs) hown ad m c (bv ys)
      (by simp [bv_length, hr.len]) (news_rd hr) (bv_one _) (by simp only [maxLen]; omega) (by omega) hbase
    unfold Oper.wp
    simp [execOp, ho, resolve, invoke, builtin, hs, hx, hrun, Result.andThen]
    exact h v' w' (by rw [bv_append]; exact h2) h3 h5

theorem own_stays {u3 W u4 u5 : World} {B6 G n6 : Nat} {v6 v4 : Value} {zs : List Value} (o6 : u3.ownsRow B6 5 1 v6 n6 zs) (hG : G < B6 ∨ u3.heap.size ≤ G) (hW : Below u3.heap.size u3 W)
    (g7 : W.grownBy u4 (some G)) (at7 : v4.ownBlock = some G ∨ v4.ownBlock = some W.heap.size) (g8 : u4.grownBy u5 v4.ownBlock) : u5.ownsRow B6 5 1 v6 n6 zs := by
  have hl := o6.lt
  have hs := hW.size
  have h1 : W.ownsRow B6 5 1 v6 n6 zs := own_below o6 hW
  have hne : ∀ g, (g = G ∨ g = W.heap.size) → v6.ownBlock ≠ some g := by
    intro g hg e
    have := hl g e
    omega
  refine (h1.kept g7 (.inr (hne G (.inl rfl)))).kept g8 (.inr ?_)
  rcases at7 with e | e
  · rw [e]; exact hne G (.inl rfl)
  · rw [e]; exact hne _ (.inr rfl)
theorem own_none (w : World) (B G : Nat) (hB : B ≤ w.heap.size) (hG : w.heap.size = G) : (w.alloc (.cells #[] 5)).ownsRow B 5 1 (.slice (some ⟨G, 0, none⟩) 0 0) 0 (bv []) := by
  subst hG
  exact own_lit_u8 w B [] hB (by simp)

theorem xor_back (xs ys : List UInt8) (j : Nat) {n1 n2 : Nat} (hx : xs.length = n1) (hy : ys.length = n2) (hj : j = min n1 n2) : xorL (xorL xs ys) ys = xs.take j := by
  have hl : (xorL (xorL xs ys) ys).length = j := by rw [xorL_length, xorL_length]; omega
  apply List.ext_getElem
  · rw [hl, List.length_take]; omega
  · intro i h1 h2
    simp [xorL, UInt8.xor_assoc]
theorem cat_late (w : World) (o : Obj) (T : TypeId) {A A' : Option Addr} {n c n' c' : Nat} {xs ys : List UInt8} (h : Rd w A n c xs) (h' : Rd w A' n' c' ys) :
    RdBs ((w.alloc o).alloc (.cells #[.slice A n c, .slice A' n' c'] T)) (some ⟨w.heap.size + 1, 0, none⟩) 2 2 [xs, ys] := by
  have := RdBs.built2 (w.alloc o) T (h.alloc o) (h'.alloc o)
  have e : (w.alloc o).heap.size = w.heap.size + 1 := by simp
  rw [e] at this
  exact this
theorem xor_here (xs ys : List UInt8) (j : Nat) (hx : j < xs.length) (hy : j < ys.length) :
    (((xorL xs ys)[j]?.getD 0).toNat : Int) = bits .xor .u8 ((xs[j]?.getD 0).toNat : Int) ((ys[j]?.getD 0).toNat : Int) := by
  simp only [List.getElem?_eq_getElem hx, List.getElem?_eq_getElem hy, Option.getD_some]
  rw [u8_xor_nat _ _ (UInt8.toNat_lt _) (UInt8.toNat_lt _), ← UInt8.toNat_xor]
  have h3 : j < (xorL xs ys).length := by rw [xorL_length]; omega
  rw [List.getElem?_eq_getElem h3, Option.getD_some]
  simp [xorL]

set_option maxRecDepth 100000 in
set_option maxHeartbeats 4000000 in
theorem octetPairs_walk (w : World) (A1 : Option Addr) (n1 c1 : Nat) (xs : List UInt8) (h1 : Rd w A1 n1 c1 xs) (A2 : Option Addr) (n2 c2 : Nat) (ys : List UInt8) (h2 : Rd w A2 n2 c2 ys)
    (v : Value) (y : UInt8 × Int) (hv : v = .agg #[.int .u8 (y.1.toNat : Int), .int .i64 y.2]) :
    Calls Try.prog 4 #[.slice A1 n1 c1, .slice A2 n2 c2, v] w fun e w' => e = .returned (.bool true) ∧ Below w.heap.size w w' := by
  obtain ⟨c, i⟩ := y
  subst hv
  have p1 := Nat.le_trans h1.cap h1.max
  have p2 := Nat.le_trans h2.cap h2.max
  unfold maxLen at p1 p2
  have b0 : Below w.heap.size w (w.alloc (.cells #[.int .u8 (c.toNat : Int), .int .i64 i] 32)) := (Below.refl _ _).alloc (Nat.le_refl _) _
  by_cases hl1 : 1000 < n1
  · go_enter Try.func4, Try.ntmps4
    go_wp2_with (go_at_call 8; refine (awake_true _).mono ?_; rintro e v1 ⟨rfl, b1⟩; have f0 := (b1.cell (p := ⟨w.heap.size, 0, none⟩) (by simp)).trans (World.cell?_alloc_at _ _ _ 0 rfl); have f1 := (b1.cell (p := ⟨w.heap.size, 1, none⟩) (by simp)).trans (World.cell?_alloc_at _ _ _ 1 rfl))
    go_ret
    exact ⟨rfl, b0.trans (b1.mono (by simp))⟩
  · by_cases hl2 : 1000 < n2
    · go_enter Try.func4, Try.ntmps4
      go_wp2_with (go_at_call 8; refine (awake_true _).mono ?_; rintro e v1 ⟨rfl, b1⟩; have f0 := (b1.cell (p := ⟨w.heap.size, 0, none⟩) (by simp)).trans (World.cell?_alloc_at _ _ _ 0 rfl); have f1 := (b1.cell (p := ⟨w.heap.size, 1, none⟩) (by simp)).trans (World.cell?_alloc_at _ _ _ 1 rfl))
      go_ret
      exact ⟨rfl, b0.trans (b1.mono (by simp))⟩
    · obtain ⟨m, hm⟩ : ∃ m, m = min n1 n2 := ⟨_, rfl⟩
      have m1 : m ≤ n1 := by omega
      have m2 : m ≤ n2 := by omega
      have m3 : m ≤ 1000 := by omega
      have hmin : ∀ W, (Builtin.min_ #[3, 3] 3 #[.int .i64 (n1 : Int), .int .i64 (n2 : Int)]).run Try.prog W = .ok (.int .i64 (m : Int)) W := fun W => run_min2b _ _ _ _ _ _ (by omega) W
      have HM := Lib.hid hm
      clear hm
      obtain ⟨r, hr⟩ : ∃ r, sameB xs ys = r := ⟨_, rfl⟩
      have HR := Lib.hid hr
      clear hr
      go_enter Try.func4, Try.ntmps4
      go_wp2_with (go_at_call 8; refine (awake_true _).mono ?_; rintro e v1 ⟨rfl, b1⟩; have f0 := (b1.cell (p := ⟨w.heap.size, 0, none⟩) (by simp)).trans (World.cell?_alloc_at _ _ _ 0 rfl); have f1 := (b1.cell (p := ⟨w.heap.size, 1, none⟩) (by simp)).trans (World.cell?_alloc_at _ _ _ 1 rfl))
      have hx := (h1.below b0).below b1
      have hy := (h2.below b0).below b1
      have B := b0.trans (b1.mono b0.size)
      clear f0 f1 b0 b1 h1 h2
      go_wp2_with (go_at_call 14; ((with_reducible refine (xor_l m A1 A2 n1 c1 n2 c2 xs ys _ hx hy HM.out (by omega)).mono ?_); rintro e v2 ⟨A3, c3, rfl, h3, b2⟩))
      have hx := hx.below b2
      have hy := hy.below b2
      have B := B.trans (b2.mono B.size)
      clear b2
      go_wp2_with (go_at_call 15; ((with_reducible refine (same_is r A1 A2 n1 c1 n2 c2 xs ys _ hx hy HR.out).mono ?_); rintro e v3 ⟨rfl, rfl⟩))
      go_wp2_with (go_at_call 12; ((with_reducible refine (rsame_is r A1 A2 n1 c1 n2 c2 xs ys _ hx hy HR.out).mono ?_); rintro e v4 ⟨rfl, b4⟩))
      have hx := hx.below b4
      have hy := hy.below b4
      have h3 := h3.below b4
      have B := B.trans (b4.mono B.size)
      clear b4
      go_wp2_with (go_at_call 15; ((with_reducible refine (same_is true A1 A1 n1 c1 n1 c1 xs xs _ hx hx (sameB_refl xs)).mono ?_); rintro e v5 ⟨rfl, rfl⟩))
      go_wp2_with (go_at_call 16; ((with_reducible refine (fill_at c i _).mono ?_); rintro e v6 ⟨A6, n6, c6, rfl, o6, b6⟩))
      have hx := hx.below b6
      have hy := hy.below b6
      have h3 := h3.below b6
      have h6 := Rd.own o6
      have B := B.trans (b6.mono B.size)
      clear b6 o6
      go_wp2_with (go_at_call 17; ((with_reducible refine (rfill_at c i _).mono ?_); rintro e v7 ⟨A7, n7, c7, rfl, o7, b7⟩))
      have hx := hx.below b7
      have hy := hy.below b7
      have h3 := h3.below b7
      have h6 := h6.below b7
      have h7 := Rd.own o7
      have B := B.trans (b7.mono B.size)
      clear b7 o7
      go_wp2_with (go_at_call 12; ((with_reducible refine (rsame_is true A6 A7 n6 c6 n7 c7 (fillI c i) (fillI c i) _ h6 h7 (sameB_refl _)).mono ?_); rintro e v8 ⟨rfl, b8⟩))
      have hx := hx.below b8
      have hy := hy.below b8
      have h3 := h3.below b8
      have B := B.trans (b8.mono B.size)
      clear b8 h6 h7
      go_loopw [11] (fun t wr => ∃ j q : Nat, wr = v8.drewN q ∧ t = .int .i64 (j : Int) ∧ j ≤ m) (fun t _ => m - (intOf t).toNat)
      case atStart => exact ⟨0, 0, rfl, rfl, Nat.zero_le _⟩
      case round =>
        obtain ⟨j, q, rfl, rfl, hj⟩ := hrel
        by_cases hlt : j < m
        · obtain ⟨p1, f1, rfl, l1, g1⟩ := hx.at_ (by omega)
          obtain ⟨p2, f2, rfl, l2, g2⟩ := hy.at_ (by omega)
          obtain ⟨p3, f3, rfl, l3, g3⟩ := h3.at_ (by omega)
          replace g1 := g1 j (by omega)
          replace g2 := g2 j (by omega)
          replace g3 := g3 j hlt
          have i1 : (j : Int) < n1 := by omega
          have i2 : (j : Int) < n2 := by omega
          have i3 : (j : Int) < m := by omega
          simp only [List.getD_eq_getElem?_getD] at g1 g2 g3
          have hbx := xor_here xs ys j (by have := hx.len; omega) (by have := hy.len; omega)
          generalize (xs[j]?.getD 0).toNat = a at g1 hbx
          generalize (ys[j]?.getD 0).toNat = b at g2 hbx
          generalize ((xorL xs ys)[j]?.getD 0).toNat = z at g3 hbx
          replace hbx := hbx.symm
          go_wp2
          go_region
          go_wp2
          go_roundw
          case rel => exact ⟨j + 1, q + 1, rfl, by go_num, by omega⟩
          case measure => simp [intOf]; omega
        · obtain rfl : j = m := by omega
          have bq : Below v8.heap.size v8 (v8.drewN q) := ⟨rfl, rfl, rfl, Nat.le_refl _, fun _ _ => rfl⟩
          have hx := hx.below bq
          have hy := hy.below bq
          have h3 := h3.below bq
          have B := B.trans (bq.mono B.size)
          generalize v8.drewN q = v9 at hx hy h3 B ⊢
          go_wp2
          have bd : Below v9.heap.size v9 v9.drew := (Below.refl _ _).drew
          have hx := hx.below bd
          have hy := hy.below bd
          have h3 := h3.below bd
          have B := B.trans (bd.mono B.size)
          have hj2 := HM.out
          have c1j : (j : Int) ≤ (c1 : Int) := by have := hx.cap; omega
          have j0 : (0 : Int) ≤ (j : Int) := by omega
          have HB := Lib.hid (xor_back xs ys j hx.len hy.len HM.out)
          have HJ := Lib.hid (show j = min j n2 by omega)
          have HF := Lib.hid (show [xs, ys].flatten = ([] ++ xs) ++ ys by simp)
          have ht : [xs, ys].flatten.length ≤ 140737488355328 := by have := hx.len; have := hy.len; simp; omega
          have l1 : n1 ≤ 1000 := by omega
          have l2 : n2 ≤ 1000 := by omega
          clear hj2
          go_region_held3 (fun _ => True) (trivial) (first
            | (go_at_call 14; ((with_reducible refine (xor_l j A3 A2 j c3 n2 c2 (xorL xs ys) ys _ h3 hy HJ.out (by omega)).mono ?_); rintro e u1 ⟨D1, d1, rfl, r1, b1⟩; have hx1 := hx.below b1; have hy1 := hy.below b1; have B1 := B.trans (b1.mono B.size); have t1 := hx1.take (show j ≤ n1 by omega)))
            | (go_at_call 12; ((with_reducible refine (rsame_is true D1 A1 j d1 j c1 (xorL (xorL xs ys) ys) (xs.take j) _ r1 t1 (by rw [HB.out]; exact sameB_refl _)).mono ?_); rintro e u2 ⟨rfl, b2⟩; have hx2 := hx1.below b2; have hy2 := hy1.below b2; have B2 := B1.trans (b2.mono B1.size)))
            | (go_at_call 18; ((with_reducible refine (cat_any _ 2 2 [xs, ys] _ ?_ ht).mono ?_); (first | exact RdBs.built2 u2 23 hx2 hy2 | exact (RdBs.built2 u2 23 hx2 hy2).below ((Below.refl _ _).alloc (Nat.le_refl _) _) | exact cat_late u2 _ 23 hx2 hy2); rintro e u3 ⟨A6, n6, c6, rfl, o6, b6⟩; have bu3 : Below u2.heap.size u2 u3 := (by first | exact ((Below.refl _ _).alloc (Nat.le_refl _) _).trans (b6.mono (by simp)) | exact (((Below.refl _ _).alloc (Nat.le_refl _) _).alloc (by simp) _).trans (b6.mono (by simp; omega))); have hx3 := hx2.below bu3; have hy3 := hy2.below bu3; have s3 := bu3.size; have s2 := B2.size))
            | (refine step_append_rd (by rfl) (.tmp 94) (.tmp 95) (by rfl) w.heap.size (.slice (some ⟨u3.heap.size, 0, none⟩) 0 0) 0 [] (by rfl) (own_none u3 _ _ (by omega) rfl) A1 n1 c1 xs (by rfl) (hx3.alloc _) (by omega) (by first | omega | (simp; omega)) ?_; intro k7 u4 o7 g7 at7; have m7 : ∀ k, k7.ownBlock = some k → u2.heap.size ≤ k := (by intro k hk; rcases at7 with e | e <;> (rw [e] at hk; simp [Value.ownBlock] at hk; omega)); have bu4 : Below u2.heap.size u2 u4 := (bu3.alloc s3 _).grown g7 (by first | omega | (simp; omega)) (by intro k hk; simp [Value.ownBlock] at hk; omega); have q6 : ∀ u, u4.grownBy u k7.ownBlock → u.ownsRow _ 5 1 (.slice A6 n6 c6) n6 (bv [xs, ys].flatten) := fun u g => own_stays o6 (.inr (Nat.le_refl _)) ((Below.refl _ _).alloc (Nat.le_refl _) _) g7 at7 g)
            | (refine step_append_rd (by rfl) (.tmp 96) (.tmp 97) (by rfl) w.heap.size k7 (0 + n1) ([] ++ xs) (by rfl) o7 A2 n2 c2 ys (by rfl) (hy2.below bu4) (by omega) (by have := bu4.size; omega) ?_; intro k8 u5 o8 g8 at8; simp only [Nat.zero_add, List.nil_append] at o8; obtain ⟨A8, c8, rfl⟩ := own_form o8; have r6 := Rd.own (q6 _ g8); have r8 := Rd.own o8; have bu5 : Below u2.heap.size u2 u5 := bu4.grown g8 bu4.size m7)
            | (refine step_append_rd (by rfl) (.tmp 94) (.tmp 95) (by rfl) w.heap.size (.slice (some ⟨u2.heap.size + 1, 0, none⟩) 0 0) 0 [] (by rfl) (own_below (own_none (u2.alloc _) w.heap.size (u2.heap.size + 1) (by first | omega | (simp; omega)) (by simp)) b6) A1 n1 c1 xs (by rfl) hx3 (by omega) (by first | omega | (simp; omega)) ?_; intro k7 u4 o7 g7 at7; have m7 : ∀ k, k7.ownBlock = some k → u2.heap.size ≤ k := (by intro k hk; rcases at7 with e | e <;> (rw [e] at hk; simp [Value.ownBlock] at hk; omega)); have bu4 : Below u2.heap.size u2 u4 := bu3.grown g7 (by first | omega | (simp; omega)) (by intro k hk; simp [Value.ownBlock] at hk; omega); have q6 : ∀ u, u4.grownBy u k7.ownBlock → u.ownsRow _ 5 1 (.slice A6 n6 c6) n6 (bv [xs, ys].flatten) := fun u g => own_stays o6 (.inl (by first | (simp; done) | (simp; omega))) (Below.refl _ _) g7 at7 g)
            | (refine step_append_rd (by rfl) (.tmp 94) (.tmp 95) (by rfl) w.heap.size (.slice (some ⟨u2.heap.size, 0, none⟩) 0 0) 0 [] (by rfl) (own_below ((own_none u2 w.heap.size u2.heap.size (by omega) rfl).alloc _) b6) A1 n1 c1 xs (by rfl) hx3 (by omega) (by first | omega | (simp; omega)) ?_; intro k7 u4 o7 g7 at7; have m7 : ∀ k, k7.ownBlock = some k → u2.heap.size ≤ k := (by intro k hk; rcases at7 with e | e <;> (rw [e] at hk; simp [Value.ownBlock] at hk; omega)); have bu4 : Below u2.heap.size u2 u4 := bu3.grown g7 (by first | omega | (simp; omega)) (by intro k hk; simp [Value.ownBlock] at hk; omega); have q6 : ∀ u, u4.grownBy u k7.ownBlock → u.ownsRow _ 5 1 (.slice A6 n6 c6) n6 (bv [xs, ys].flatten) := fun u g => own_stays o6 (.inl (by first | (simp; done) | (simp; omega))) (Below.refl _ _) g7 at7 g)
            | (go_at_call 12; ((with_reducible refine (rsame_is true A6 A8 n6 c6 (n1 + n2) c8 [xs, ys].flatten (xs ++ ys) _ r6 r8 (by rw [HF.out, List.nil_append]; exact sameB_refl _)).mono ?_); rintro e u6 ⟨rfl, b6'⟩; have B6 := (B2.trans (bu5.mono B2.size)).trans (b6'.mono (Nat.le_trans B2.size bu5.size))))
            | fail)
          all_goals
            go_wp2
            go_ret
            exact ⟨rfl, B6⟩
end Go.Proofs.Ytgiocloegmpehaa
