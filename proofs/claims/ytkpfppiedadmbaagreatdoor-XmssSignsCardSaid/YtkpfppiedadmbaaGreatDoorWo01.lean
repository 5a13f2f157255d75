/-
  Texts put together: Words, Sha, Dig. No statement is proved here.
-/
import Derived.Test.YtkpfppiedadmbaaGreatDoorRows
import Derived.WalkKit
import Derived.WalkSpells
import Derived.WalkLawsBesides
import Derived.Laws.AppendOwnNone
import Derived.Lib.Hide

/-
  Words of this seat's proofs: rows of bytes in memory, as lists of UInt8. Plain lemmas, no statement is proved here.
-/
namespace Go.Proofs.YtkpfppiedadmbaaGreatDoor
set_option linter.unusedSimpArgs false
set_option linter.unusedVariables false
set_option maxRecDepth 1024
open Go.RowKit

theorem Tryz.infoU8 : (Tryz.prog.info? 5).map (fun i => (i.zero, i.size, i.bytes)) = some (some (.int .u8 0), 1, 1) := by kernel_rfl

/-- A row of bytes as values. -/
def bv (xs : List UInt8) : List Value := xs.map fun b => Value.int .u8 (b.toNat : Int)
theorem bv_length (xs : List UInt8) : (bv xs).length = xs.length := by simp [bv]
theorem bv_append (xs ys : List UInt8) : bv (xs ++ ys) = bv xs ++ bv ys := by simp [bv]
theorem bv_set (xs : List UInt8) (i : Nat) (b : UInt8) : (bv xs).set i (.int .u8 (b.toNat : Int)) = bv (xs.set i b) := by simp [bv, List.map_set]
theorem bv_at (xs : List UInt8) (i : Nat) (h : i < xs.length) : (bv xs)[i]? = some (.int .u8 (xs[i].toNat : Int)) := by simp [bv, h]
theorem bv_one (xs : List UInt8) : ∀ u ∈ bv xs, u.oneCell' = true := by
  intro u hu
  simp only [bv, List.mem_map] at hu
  obtain ⟨b, _, rfl⟩ := hu
  rfl
theorem bv_zero (n : Nat) : (madeCells #[Value.int .u8 0] n).toList = bv (List.replicate n 0) := by
  rw [toList_madeCells_one]
  simp [bv]
theorem u8_lt (b : UInt8) : b.toNat < 256 := b.toNat_lt

/-- The slice value of address A, length n and capacity c reads as the bytes xs. -/
structure Rd (w : World) (A : Option Addr) (n c : Nat) (xs : List UInt8) : Prop where
  len : xs.length = n
  cap : n ≤ c
  max : c ≤ maxLen
  nil : A = none → c = 0
  at_ : 0 < n → ∃ b off, A = some ⟨b, off, none⟩ ∧ b < w.heap.size ∧ ∀ j, j < n → w.cell? ⟨b, off + j, none⟩ = some (.int .u8 ((xs.getD j 0).toNat : Int))

theorem Rd.keep {w w' : World} {A : Option Addr} {n c : Nat} {xs : List UInt8} (h : Rd w A n c xs) (hs : w.heap.size ≤ w'.heap.size)
    (hk : ∀ p : Addr, p.block < w.heap.size → w'.cell? p = w.cell? p) : Rd w' A n c xs :=
  ⟨h.len, h.cap, h.max, h.nil, fun hn => by
    obtain ⟨b, off, e, hb, hc⟩ := h.at_ hn
    exact ⟨b, off, e, Nat.lt_of_lt_of_le hb hs, fun j hj => (hk _ hb).trans (hc j hj)⟩⟩
theorem Rd.below {w w' : World} {A : Option Addr} {n c : Nat} {xs : List UInt8} (h : Rd w A n c xs) (hb : Below w.heap.size w w') : Rd w' A n c xs :=
  h.keep hb.size fun _ hp => hb.cell hp
theorem Rd.alloc {w : World} {A : Option Addr} {n c : Nat} {xs : List UInt8} (h : Rd w A n c xs) (o : Obj) : Rd (w.alloc o) A n c xs :=
  h.below ((Below.refl _ _).alloc (Nat.le_refl _) o)
theorem Rd.drew {w : World} {A : Option Addr} {n c : Nat} {xs : List UInt8} (h : Rd w A n c xs) : Rd w.drew A n c xs := h.below (Below.refl _ _).drew
theorem Rd.nil_ (w : World) : Rd w none 0 0 [] := ⟨rfl, Nat.le_refl _, by simp [maxLen], fun _ => rfl, fun h => absurd h (by omega)⟩
/-- What is owned reads. -/
theorem Rd.own {w : World} {B e n : Nat} {A : Option Addr} {c : Nat} {xs : List UInt8} (h : w.ownsRow B e 1 (.slice A n c) n (bv xs)) : Rd w A n c xs := by
  have hl : xs.length = n := by have := h.1; simp [bv_length] at this; exact this
  rcases h.2 with ⟨hv, hn⟩ | ⟨g, cap, cur, hv, _, hh, hnc, hcm, _, htake⟩
  · injection hv with h1 h2 h3
    subst h1 h2 h3
    have : xs = [] := List.eq_nil_of_length_eq_zero hl
    subst this
    exact Rd.nil_ w
  · injection hv with h1 h2 h3
    subst h1 h3
    refine ⟨hl, hnc, hcm, (fun h => by cases h), fun hn => ⟨g, 0, rfl, (Array.getElem?_eq_some_iff.1 hh).1, fun j hj => ?_⟩⟩
    have := h.cellAt j (by omega)
    rw [Nat.zero_add, this, bv_at xs j (by omega)]
    simp [List.getD, hl ▸ hj]

/-- s[lo:hi], as the model spells the address. -/
theorem Rd.cut {w : World} {A : Option Addr} {n c : Nat} {xs : List UInt8} (h : Rd w A n c xs) {k : Nat} (hk : k ≤ n) :
    Rd w (if c = k then A else A.map (·.add k)) (n - k) (c - k) (xs.drop k) := by
  have hc := h.cap
  refine ⟨by simp [h.len], by omega, by have := h.max; omega, fun e => ?_, fun hn => ?_⟩
  · split at e
    · have := h.nil e; omega
    · have : A = none := by simpa using e
      have := h.nil this; omega
  · obtain ⟨b, off, rfl, hb, hcell⟩ := h.at_ (by omega)
    rw [if_neg (by omega)]
    refine ⟨b, off + k, ?_, hb, fun j hj => ?_⟩
    · simp only [Option.map_some, Addr.add]
      split
      · subst_vars; rfl
      · rfl
    · have := hcell (k + j) (by omega)
      rw [Nat.add_assoc, this]
      simp [List.getD, List.getElem?_drop]
theorem Rd.take {w : World} {A : Option Addr} {n c : Nat} {xs : List UInt8} (h : Rd w A n c xs) {k : Nat} (hk : k ≤ n) : Rd w A k c (xs.take k) := by
  have hl := h.len
  have hc := h.cap
  refine ⟨by simp; omega, by omega, h.max, h.nil, fun hn => ?_⟩
  obtain ⟨b, off, rfl, hb, hcell⟩ := h.at_ (by omega)
  refine ⟨b, off, rfl, hb, fun j hj => ?_⟩
  rw [hcell j (by omega)]
  simp [List.getD, List.getElem?_take, hj]

theorem own_form {w : World} {B e n : Nat} {v : Value} {xs : List Value} (h : w.ownsRow B e 1 v n xs) : ∃ (A : Option Addr) (c : Nat), v = .slice A n c := by
  rcases h.2 with ⟨rfl, rfl⟩ | ⟨g, cap, cur, rfl, _⟩
  · exact ⟨none, 0, rfl⟩
  · exact ⟨_, _, rfl⟩
theorem own_len {w : World} {B e n : Nat} {v : Value} {xs : List UInt8} (h : w.ownsRow B e 1 v n (bv xs)) : xs.length = n := by
  have := h.1; simp [bv_length] at this; exact this

/-- 'out = append(out, p...)': out nil or the call's own, p whatever bytes. -/
theorem append_rd {w : World} {ops : Array Oper} {rest : List Oper} {o : Oper} {a : Act} {Q : Exit → Act → World → Prop} (hgd : o.guard = none) (s x : Operand)
    (ho : o.op = .call { callee := .builtin .append, args := #[s, x], argTypes := #[24, 24] })
    (base : Nat) (v : Value) (n : Nat) (xs : List UInt8) (hs : a.eval s = v) (hown : w.ownsRow base 5 1 v n (bv xs))
    (A : Option Addr) (m c : Nat) (ys : List UInt8) (hx : a.eval x = .slice A m c) (hr : Rd w A m c ys) (hb : n + m ≤ 140737488355328) (hbase : base ≤ w.heap.size)
    (h : ∀ v' w', w'.ownsRow base 5 1 v' (n + m) (bv (xs ++ ys)) → w.grownBy w' v.ownBlock → wpList Tryz.prog ops Q rest (a.put o.dst v') w') : wpList Tryz.prog ops Q (o :: rest) a w := by
  obtain ⟨i0, hi, hz0, hz1, hz2⟩ := info_parts Tryz.infoU8
  rcases A with _ | ad
  · have hc := hr.nil rfl
    have hm : m = 0 := by have := hr.cap; omega
    subst hc hm
    obtain rfl : ys = [] := List.eq_nil_of_length_eq_zero hr.len
    exact wpList_append_own_none hgd s x _ ho base 5 i0 1 Tryz.underlying24 hi v n (bv xs) hs hown hx (h v w (by simpa using hown) (World.grownBy.refl _ _))
  · refine wpList_append_own w hgd s x _ ho base 5 i0 (.int .u8 0) 1 1 Tryz.underlying24 hi hz0 hz1 hz2 rfl (by omega) v n (bv xs) hs hown ad m c (bv ys) hx (by simp [bv_length, hr.len]) ?_ (bv_one _)
      (by simp only [maxLen]; omega) (by omega) hbase fun v' w' h1 h2 _ => h v' w' (by rw [bv_append]; exact h1) h2
    intro j u hj
    have hl := hr.len
    have hjl : j < ys.length := by
      rcases Nat.lt_or_ge j ys.length with h | h
      · exact h
      · rw [List.getElem?_eq_none (by simpa [bv_length] using h)] at hj; cases hj
    obtain ⟨b, off, e, _, hc⟩ := hr.at_ (by omega)
    replace e := Option.some.inj e
    subst e
    have hp : (⟨b, off, none⟩ : Addr).add j = ⟨b, off + j, none⟩ := by unfold Addr.add; split <;> simp_all
    rw [bv_at ys j hjl] at hj
    rw [hp, hc j (by omega), ← hj]
    simp [List.getD, hjl]

/-- A slice of rows of bytes reads as xss. -/
structure RdBs (w : World) (A : Option Addr) (n c : Nat) (xss : List (List UInt8)) : Prop where
  len : xss.length = n
  cap : n ≤ c
  max : c ≤ maxLen
  nil : A = none → c = 0
  at_ : 0 < n → ∃ b off, A = some ⟨b, off, none⟩ ∧ b < w.heap.size ∧ ∀ j, j < n → ∃ A' n' c', w.cell? ⟨b, off + j, none⟩ = some (.slice A' n' c') ∧ Rd w A' n' c' (xss[j]?.getD [])
theorem RdBs.below {w w' : World} {A : Option Addr} {n c : Nat} {xss : List (List UInt8)} (h : RdBs w A n c xss) (hb : Below w.heap.size w w') : RdBs w' A n c xss :=
  ⟨h.len, h.cap, h.max, h.nil, fun hn => by
    obtain ⟨b, off, e, hlt, hc⟩ := h.at_ hn
    refine ⟨b, off, e, Nat.lt_of_lt_of_le hlt hb.size, fun j hj => ?_⟩
    obtain ⟨A', n', c', h1, h2⟩ := hc j hj
    exact ⟨A', n', c', (hb.cell (p := ⟨b, off + j, none⟩) hlt).trans h1, h2.below hb⟩⟩
theorem RdBs.nil_ (w : World) : RdBs w none 0 0 [] := ⟨rfl, Nat.le_refl _, by simp [maxLen], fun _ => rfl, fun h => absurd h (by omega)⟩

/-- A slice of slices that is written out. -/
theorem RdBs.built (w : World) (cs : Array Value) (T : TypeId) (xss : List (List UInt8)) (hn : xss.length ≤ maxLen)
    (h : ∀ j, j < xss.length → ∃ A n c, cs[j]? = some (.slice A n c) ∧ Rd w A n c (xss[j]?.getD [])) :
    RdBs (w.alloc (.cells cs T)) (some ⟨w.heap.size, 0, none⟩) xss.length xss.length xss :=
  ⟨rfl, Nat.le_refl _, hn, (fun h => by cases h), fun _ => ⟨w.heap.size, 0, rfl, by simp, fun j hj => by
    obtain ⟨A, n, c, h1, h2⟩ := h j hj
    exact ⟨A, n, c, by rw [Nat.zero_add, World.cell?_alloc_at cs T _ j rfl]; exact h1, h2.alloc _⟩⟩⟩
theorem RdBs.built1 (w : World) (T : TypeId) {A : Option Addr} {n c : Nat} {xs : List UInt8} (h : Rd w A n c xs) :
    RdBs (w.alloc (.cells #[.slice A n c] T)) (some ⟨w.heap.size, 0, none⟩) 1 1 [xs] :=
  RdBs.built w _ T [xs] (by simp [maxLen]) fun j hj => by
    obtain rfl : j = 0 := by simpa using hj
    exact ⟨A, n, c, rfl, h⟩
theorem RdBs.built2 (w : World) (T : TypeId) {A A' : Option Addr} {n c n' c' : Nat} {xs ys : List UInt8} (h : Rd w A n c xs) (h' : Rd w A' n' c' ys) :
    RdBs (w.alloc (.cells #[.slice A n c, .slice A' n' c'] T)) (some ⟨w.heap.size, 0, none⟩) 2 2 [xs, ys] :=
  RdBs.built w _ T [xs, ys] (by simp [maxLen]) fun j hj => by
    match j, hj with
    | 0, _ => exact ⟨A, n, c, rfl, h⟩
    | 1, _ => exact ⟨A', n', c', rfl, h'⟩

/-- Bytes in new memory are handed back. -/
def New (B : Nat) (w : World) (xs : List UInt8) (e : Ending) (w' : World) : Prop :=
  ∃ (A : Option Addr) (n c : Nat), e = .returned (.slice A n c) ∧ w'.ownsRow B 5 1 (.slice A n c) n (bv xs) ∧ Below B w w'
theorem New.mk {B : Nat} {w w' : World} {v : Value} {n : Nat} {xs : List UInt8} (h : w'.ownsRow B 5 1 v n (bv xs)) (hb : Below B w w') : New B w xs (.returned v) w' := by
  obtain ⟨A, c, rfl⟩ := own_form h
  exact ⟨A, n, c, rfl, h, hb⟩
theorem New.mono {B B' : Nat} {w : World} {xs : List UInt8} {e : Ending} {w' : World} (h : New B w xs e w') (hB : B' ≤ B) : New B' w xs e w' := by
  obtain ⟨A, n, c, he, ho, hb⟩ := h
  refine ⟨A, n, c, he, ⟨ho.1, ?_⟩, hb.mono hB⟩
  rcases ho.2 with h | ⟨g, cap, cur, h1, h2, h3⟩
  · exact .inl h
  · exact .inr ⟨g, cap, cur, h1, Nat.le_trans hB h2, h3⟩

theorem New.from {w W : World} {xs : List UInt8} {e : Ending} {w' : World} (hb : Below w.heap.size w W) (h : New W.heap.size W xs e w') : New w.heap.size w xs e w' := by
  obtain ⟨A, n, c, he, ho, hbb⟩ := h.mono hb.size
  exact ⟨A, n, c, he, ho, hb.trans hbb⟩

/-- v's last n bytes, the greatest first. -/
def putL (v : Nat) : Nat → List UInt8
  | 0 => []
  | j + 1 => UInt8.ofNat (v / 256 ^ j) :: putL v j
theorem putL_length (v n : Nat) : (putL v n).length = n := by induction n with
  | zero => rfl
  | succ n ih => simp [putL, ih]
/-- The number that bytes are. -/
def getL (xs : List UInt8) : Nat := xs.foldl (fun v c => v * 256 + c.toNat) 0
theorem getL_snoc (xs : List UInt8) (c : UInt8) : getL (xs ++ [c]) = getL xs * 256 + c.toNat := by simp [getL]
theorem getL_from (xs : List UInt8) : ∀ a : Nat, xs.foldl (fun v c => v * 256 + c.toNat) a < (a + 1) * 256 ^ xs.length := by
  induction xs with
  | nil => intro a; simp
  | cons c xs ih =>
    intro a
    simp only [List.foldl_cons, List.length_cons]
    have h := ih (a * 256 + c.toNat)
    have hc := c.toNat_lt
    have h2 : (a * 256 + c.toNat + 1) * 256 ^ xs.length ≤ ((a + 1) * 256) * 256 ^ xs.length := Nat.mul_le_mul_right _ (by omega)
    have h3 : (a + 1) * 256 ^ (xs.length + 1) = ((a + 1) * 256) * 256 ^ xs.length := by rw [Nat.pow_succ]; ac_rfl
    omega
theorem getL_lt (xs : List UInt8) : getL xs < 256 ^ xs.length := by simpa [getL] using getL_from xs 0

end Go.Proofs.YtkpfppiedadmbaaGreatDoor

/-
  SHA-256 in plain words: lists of bytes and 32-bit words. No statement is proved here.
-/
namespace Go.Proofs.YtkpfppiedadmbaaGreatDoor.S2
set_option linter.unusedSimpArgs false
set_option linter.unusedVariables false
set_option maxRecDepth 1024

def ad (x y : UInt32) : UInt32 := x + y
def su (x y : UInt32) : UInt32 := x - y
def an (x y : UInt32) : UInt32 := x &&& y
def xo (x y : UInt32) : UInt32 := x ^^^ y
def no (x : UInt32) : UInt32 := ~~~x
def rotr (x : UInt32) (n : Nat) : UInt32 := UInt32.ofNat (x.toNat / 2 ^ n + x.toNat * 2 ^ (32 - n))
def shr (x : UInt32) (n : Nat) : UInt32 := UInt32.ofNat (x.toNat / 2 ^ n)
def smE (x : UInt32) : UInt32 := xo (xo (rotr x 7) (rotr x 18)) (shr x 3)
def smL (x : UInt32) : UInt32 := xo (xo (rotr x 17) (rotr x 19)) (shr x 10)
def bgA (x : UInt32) : UInt32 := xo (xo (rotr x 2) (rotr x 13)) (rotr x 22)
def bgE (x : UInt32) : UInt32 := xo (xo (rotr x 6) (rotr x 11)) (rotr x 25)

def kN : List Int := [1116352408, 1899447441, 3049323471, 3921009573, 961987163, 1508970993, 2453635748, 2870763221, 3624381080, 310598401, 607225278, 1426881987, 1925078388, 2162078206, 2614888103, 3248222580, 3835390401, 4022224774, 264347078, 604807628, 770255983, 1249150122, 1555081692, 1996064986, 2554220882, 2821834349, 2952996808, 3210313671, 3336571891, 3584528711, 113926993, 338241895, 666307205, 773529912, 1294757372, 1396182291, 1695183700, 1986661051, 2177026350, 2456956037, 2730485921, 2820302411, 3259730800, 3345764771, 3516065817, 3600352804, 4094571909, 275423344, 430227734, 506948616, 659060556, 883997877, 958139571, 1322822218, 1537002063, 1747873779, 1955562222, 2024104815, 2227730452, 2361852424, 2428436474, 2756734187, 3204031479, 3329325298]
def kT : List UInt32 := kN.map fun z => UInt32.ofNat z.toNat

structure St where
  a : UInt32
  b : UInt32
  c : UInt32
  d : UInt32
  e : UInt32
  f : UInt32
  g : UInt32
  h : UInt32
deriving DecidableEq

def t1 (s : St) (k w : UInt32) : UInt32 := ad (ad (ad (ad s.h (bgE s.e)) (xo (an s.e s.f) (an (no s.e) s.g))) k) w
def t2 (s : St) : UInt32 := ad (bgA s.a) (xo (xo (an s.a s.b) (an s.a s.c)) (an s.b s.c))
def St.step (s : St) (k w : UInt32) : St := ⟨ad (t1 s k w) (t2 s), s.a, s.b, s.c, ad s.d (t1 s k w), s.e, s.f, s.g⟩
def St.add (s t : St) : St := ⟨ad s.a t.a, ad s.b t.b, ad s.c t.c, ad s.d t.d, ad s.e t.e, ad s.f t.f, ad s.g t.g, ad s.h t.h⟩
def rnds (ws : List UInt32) (s : St) : Nat → St
  | 0 => s
  | k + 1 => (rnds ws s k).step (kT.getD k 0) (ws.getD k 0)
/-- The words that follow, k of them. -/
def ext (ws : List UInt32) : Nat → List UInt32
  | 0 => ws
  | k + 1 => ext ws k ++ [ad (ad (ad (smL ((ext ws k).getD (14 + k) 0)) ((ext ws k).getD (9 + k) 0)) (smE ((ext ws k).getD (1 + k) 0))) ((ext ws k).getD k 0)]
/-- The t-th word of a block. -/
def w4 (xs : List UInt8) (t : Nat) : UInt32 := UInt32.ofNat (getL ((xs.drop (4 * t)).take 4))
def first16 (xs : List UInt8) : Nat → List UInt32
  | 0 => []
  | k + 1 => first16 xs k ++ [w4 xs k]
def wds (xs : List UInt8) : List UInt32 := ext (first16 xs 16) 48
def turn (s : St) (xs : List UInt8) : St := s.add (rnds (wds xs) s 64)
def hH : St := ⟨1779033703, 3144134277, 1013904242, 2773480762, 1359893119, 2600822924, 528734635, 1541459225⟩
/-- The state behind k blocks. -/
def turns (s : St) (xs : List UInt8) : Nat → St
  | 0 => s
  | k + 1 => turn (turns s xs k) ((xs.drop (64 * k)).take 64)
def pad (xs : List UInt8) : List UInt8 := xs ++ (128 :: List.replicate (63 - (xs.length + 8) % 64) 0) ++ putL (8 * xs.length) 8
def St.list (s : St) : List UInt32 := [s.a, s.b, s.c, s.d, s.e, s.f, s.g, s.h]
def outL (s : St) : List UInt8 := s.list.flatMap fun x => putL x.toNat 4
def sum (xs : List UInt8) : List UInt8 := outL (turns hH (pad xs) ((pad xs).length / 64))

theorem first16_length (xs : List UInt8) (k : Nat) : (first16 xs k).length = k := by
  induction k with
  | zero => rfl
  | succ k ih => simp [first16, ih]
theorem ext_length (ws : List UInt32) (k : Nat) : (ext ws k).length = ws.length + k := by
  induction k with
  | zero => rfl
  | succ k ih => simp [ext, ih]; omega
theorem wds_length (xs : List UInt8) : (wds xs).length = 64 := by simp [wds, ext_length, first16_length]
theorem kT_length : kT.length = 64 := rfl

set_option maxRecDepth 100000 in
theorem sum_abc : sum [97, 98, 99] = [0xba, 0x78, 0x16, 0xbf, 0x8f, 0x01, 0xcf, 0xea, 0x41, 0x41, 0x40, 0xde, 0x5d, 0xae, 0x22, 0x23, 0xb0, 0x03, 0x61, 0xa3, 0x96, 0x17, 0x7a, 0x9c, 0xb4, 0x10, 0xff, 0x61, 0xf2, 0x00, 0x15, 0xad] := by
  decide +kernel
end Go.Proofs.YtkpfppiedadmbaaGreatDoor.S2

/-
  Bytes ps digits and what they lack, in plain words; of two unlike rows some digit is less, and some more. No statement is proved here.
-/
namespace Go.Proofs.YtkpfppiedadmbaaGreatDoor.S7
set_option linter.unusedSimpArgs false
set_option linter.unusedVariables false
set_option maxRecDepth 1024

/-- The digit i of a byte x, of width w. -/
def dg (w x i : Nat) : Nat := x / 2 ^ (8 - w * (i + 1)) % 2 ^ w
def ofB (w x : Nat) : List Nat := (List.range (8 / w)).map (dg w x)
def ofL (w : Nat) (xs : List UInt8) : List Nat := (xs.map fun x => ofB w x.toNat).flatten
/-- What digits lack. -/
def lk (w : Nat) (ds : List Nat) : Nat := (ds.map fun d => 2 ^ w - 1 - d).sum
def wid (w : Nat) : Prop := w = 1 ∨ w = 2 ∨ w = 4 ∨ w = 8
/-- How many digits x has to the base b. -/
def nd (b : Nat) : Nat → Nat → Nat
  | 0, _ => 0
  | f + 1, x => if x = 0 then 0 else nd b f (x / b) + 1
def shU (n w : Nat) : Nat := 8 * n / w
def shV (n w : Nat) : Nat := nd (2 ^ w) 20 ((2 ^ w - 1) * shU n w)
def shL (n w : Nat) : Nat := 16 - shV n w * w
def allL (w : Nat) (xs : List UInt8) : List Nat :=
  ofL w xs ++ (ofL w [UInt8.ofNat (lk w (ofL w xs) * 2 ^ shL xs.length w / 256), UInt8.ofNat (lk w (ofL w xs) * 2 ^ shL xs.length w)]).take (shV xs.length w)

theorem wid_div {w : Nat} (h : wid w) : w * (8 / w) = 8 ∧ 1 ≤ w ∧ w ≤ 8 := by rcases h with h | h | h | h <;> subst h <;> decide
theorem dg_lt (w x i : Nat) : dg w x i < 2 ^ w := Nat.mod_lt _ (Nat.two_pow_pos _)
theorem ofB_length (w x : Nat) : (ofB w x).length = 8 / w := by simp [ofB]
theorem ofL_length (w : Nat) (xs : List UInt8) : (ofL w xs).length = xs.length * (8 / w) := by
  induction xs with
  | nil => simp [ofL]
  | cons x xs ih =>
    have e : ofL w (x :: xs) = ofB w x.toNat ++ ofL w xs := by simp [ofL]
    rw [e, List.length_append, ofB_length, ih, List.length_cons, Nat.succ_mul, Nat.add_comm]
theorem ofL_lt (w : Nat) (xs : List UInt8) : ∀ d ∈ ofL w xs, d < 2 ^ w := by
  intro d hd
  simp only [ofL, ofB, List.mem_flatten, List.mem_map] at hd
  obtain ⟨l, ⟨x, _, rfl⟩, hl⟩ := hd
  obtain ⟨i, _, rfl⟩ := List.mem_map.1 hl
  exact dg_lt _ _ _
theorem ofL_append (w : Nat) (xs ys : List UInt8) : ofL w (xs ++ ys) = ofL w xs ++ ofL w ys := by simp [ofL]
theorem lk_append (w : Nat) (ps qs : List Nat) : lk w (ps ++ qs) = lk w ps + lk w qs := by simp [lk]
theorem lk_le (w : Nat) (ds : List Nat) : lk w ds ≤ (2 ^ w - 1) * ds.length := by
  induction ds with
  | nil => simp [lk]
  | cons d ds ih =>
    have e : lk w (d :: ds) = (2 ^ w - 1 - d) + lk w ds := by simp [lk]
    rw [e, List.length_cons, Nat.mul_succ]
    omega
/-- The number that digits say. -/
def val (b : Nat) (ds : List Nat) : Nat := ds.foldl (fun v d => v * b + d) 0
theorem val_snoc (b : Nat) (ds : List Nat) (d : Nat) : val b (ds ++ [d]) = val b ds * b + d := by simp [val]
/-- The first v digits of a number of T bits. -/
theorem val_take (w T N v : Nat) (hv : w * v ≤ T) (hN : N < 2 ^ T) : val (2 ^ w) ((List.range v).map fun i => N / 2 ^ (T - w * (i + 1)) % 2 ^ w) = N / 2 ^ (T - w * v) := by
  induction v with
  | zero =>
    simp only [List.range_zero, List.map_nil, val, List.foldl_nil, Nat.mul_zero, Nat.sub_zero]
    exact (Nat.div_eq_of_lt hN).symm
  | succ v ih =>
    have h1 : w * v + w ≤ T := by rw [← Nat.mul_succ]; exact hv
    rw [List.range_succ, List.map_append, List.map_cons, List.map_nil, val_snoc, ih (by omega)]
    have e : T - w * v = (T - w * (v + 1)) + w := by rw [Nat.mul_succ]; omega
    rw [e, Nat.pow_add, ← Nat.div_div_eq_div_mul]
    exact Nat.div_add_mod' _ _
theorem val_byte (w x : Nat) (hw : wid w) (hx : x < 256) : val (2 ^ w) (ofB w x) = x := by
  have h := wid_div hw
  have := val_take w 8 x (8 / w) (by omega) hx
  rw [h.1] at this
  refine Eq.trans this ?_
  simp
theorem ofL_inj (w : Nat) (hw : wid w) : ∀ xs ys : List UInt8, xs.length = ys.length → ofL w xs = ofL w ys → xs = ys
  | [], [], _, _ => rfl
  | x :: xs, y :: ys, hl, h => by
    have e : ∀ (z : UInt8) zs, ofL w (z :: zs) = ofB w z.toNat ++ ofL w zs := fun z zs => by simp [ofL]
    rw [e, e] at h
    obtain ⟨h1, h2⟩ := List.append_inj h (by rw [ofB_length, ofB_length])
    have hx := val_byte w x.toNat hw x.toNat_lt
    have hy := val_byte w y.toNat hw y.toNat_lt
    rw [h1, hy] at hx
    rw [UInt8.toNat_inj.1 hx, ofL_inj w hw xs ys (by simpa using hl) h2]
  | [], _ :: _, hl, _ => by simp at hl
  | _ :: _, [], hl, _ => by simp at hl
/-- Two bytes ps digits are the digits of their number. -/
theorem ofL_two (w : Nat) (hw : wid w) (N : Nat) (hN : N < 65536) : ofL w [UInt8.ofNat (N / 256), UInt8.ofNat N] = (List.range (16 / w)).map fun i => N / 2 ^ (16 - w * (i + 1)) % 2 ^ w := by
  have h1 : (UInt8.ofNat (N / 256)).toNat = N / 256 := by rw [UInt8.toNat_ofNat']; omega
  have h2 : (UInt8.ofNat N).toNat = N % 256 := by rw [UInt8.toNat_ofNat']
  have e : ofL w [UInt8.ofNat (N / 256), UInt8.ofNat N] = ofB w (N / 256) ++ ofB w (N % 256) := by simp [ofL, h1, h2]
  rw [e]
  rcases hw with h | h | h | h <;> subst h <;> simp [ofB, dg, List.range_succ] <;> omega
/-- No digit is less. -/
def ge : List Nat → List Nat → Prop
  | [], [] => True
  | a :: ps, b :: qs => b ≤ a ∧ ge ps qs
  | _, _ => False
theorem ge_split : ∀ (ps qs cs ds : List Nat), ps.length = qs.length → ge (ps ++ cs) (qs ++ ds) → ge ps qs ∧ ge cs ds
  | [], [], cs, ds, _, h => ⟨trivial, h⟩
  | a :: ps, b :: qs, cs, ds, hl, h => by
    obtain ⟨h1, h2⟩ := ge_split ps qs cs ds (by simpa using hl) h.2
    exact ⟨⟨h.1, h1⟩, h2⟩
  | [], _ :: _, _, _, hl, _ => by simp at hl
  | _ :: _, [], _, _, hl, _ => by simp at hl
theorem ge_lk (w : Nat) : ∀ ps qs : List Nat, ge ps qs → (∀ a ∈ ps, a < 2 ^ w) → lk w ps ≤ lk w qs ∧ (lk w ps = lk w qs → ps = qs)
  | [], [], _, _ => ⟨Nat.le_refl _, fun _ => rfl⟩
  | a :: ps, b :: qs, h, hm => by
    obtain ⟨h1, h2⟩ := ge_lk w ps qs h.2 (fun x hx => hm x (List.mem_cons_of_mem _ hx))
    have ha := hm a (List.mem_cons_self ..)
    have hb : b ≤ a := h.1
    have e : ∀ (d : Nat) ds, lk w (d :: ds) = (2 ^ w - 1 - d) + lk w ds := fun d ds => by simp [lk]
    rw [e, e]
    refine ⟨by omega, fun he => ?_⟩
    obtain rfl : a = b := by omega
    rw [h2 (by omega)]
  | [], _ :: _, h, _ => h.elim
  | _ :: _, [], h, _ => h.elim
theorem ge_valFrom (b : Nat) : ∀ (ps qs : List Nat) (v v' : Nat), ge ps qs → v' ≤ v → qs.foldl (fun v d => v * b + d) v' ≤ ps.foldl (fun v d => v * b + d) v
  | [], [], _, _, _, h => h
  | a :: ps, c :: qs, v, v', h, hv => ge_valFrom b ps qs _ _ h.2 (Nat.add_le_add (Nat.mul_le_mul_right _ hv) h.1)
  | [], _ :: _, _, _, h, _ => h.elim
  | _ :: _, [], _, _, h, _ => h.elim
/-- The numbers of the shape: enough digits, and no more; within 16 bits. -/
theorem shape_facts (n w : Nat) (hw : wid w) (h0 : 1 ≤ n) (h1 : n ≤ 64) : (2 ^ w - 1) * shU n w < 2 ^ (w * shV n w) ∧ w * shV n w ≤ 16 ∧ 1 ≤ shV n w ∧ shU n w = n * (8 / w) ∧ (1 < shV n w → 2 ^ (w * (shV n w - 1)) ≤ (2 ^ w - 1) * shU n w) := by
  have h : ∀ m, m < 65 → 1 ≤ m → ∀ w ∈ [1, 2, 4, 8], (2 ^ w - 1) * shU m w < 2 ^ (w * shV m w) ∧ w * shV m w ≤ 16 ∧ 1 ≤ shV m w ∧ shU m w = m * (8 / w) ∧ (1 < shV m w → 2 ^ (w * (shV m w - 1)) ≤ (2 ^ w - 1) * shU m w) := by decide +kernel
  refine h n (by omega) h0 w ?_
  rcases hw with h | h | h | h <;> subst h <;> simp
/-- What is lacked, ps digits, says itself. -/
theorem lack_val (w : Nat) (hw : wid w) (xs : List UInt8) (h0 : 1 ≤ xs.length) (h1 : xs.length ≤ 64) :
    lk w (ofL w xs) * 2 ^ shL xs.length w < 65536 ∧ val (2 ^ w) ((ofL w [UInt8.ofNat (lk w (ofL w xs) * 2 ^ shL xs.length w / 256), UInt8.ofNat (lk w (ofL w xs) * 2 ^ shL xs.length w)]).take (shV xs.length w)) = lk w (ofL w xs) ∧ shV xs.length w ≤ 16 / w := by
  obtain ⟨f1, f2, f3, f4, _⟩ := shape_facts xs.length w hw h0 h1
  obtain ⟨V, hV⟩ : ∃ V, V = shV xs.length w := ⟨_, rfl⟩
  obtain ⟨L, hL⟩ : ∃ L, L = lk w (ofL w xs) := ⟨_, rfl⟩
  have hle : L ≤ (2 ^ w - 1) * shU xs.length w := by rw [hL, f4, ← ofL_length]; exact lk_le w _
  have e16 : 2 ^ (w * V) * 2 ^ (16 - V * w) = 65536 := by rw [← Nat.pow_add, Nat.mul_comm V w, show w * V + (16 - w * V) = 16 by rw [hV]; omega]
  have hlt : L * 2 ^ (16 - V * w) < 65536 := by
    rw [← e16]
    exact Nat.mul_lt_mul_of_pos_right (by rw [hV]; omega) (Nat.two_pow_pos _)
  have hv16 : V ≤ 16 / w := by
    have := wid_div hw
    rw [Nat.le_div_iff_mul_le (by omega), Nat.mul_comm, hV]
    exact f2
  unfold shL
  rw [← hV, ← hL]
  refine ⟨hlt, ?_, hv16⟩
  rw [ofL_two w hw _ hlt, ← List.map_take, List.take_range, Nat.min_eq_left hv16, val_take w 16 _ V (by rw [hV]; exact f2) hlt, Nat.mul_comm w V]
  exact Nat.mul_div_cancel _ (Nat.two_pow_pos _)
/-- Of two unlike rows of one length not every digit of all of the first is at least that of the second. -/
theorem not_ge (w : Nat) (hw : wid w) (xs ys : List UInt8) (hl : xs.length = ys.length) (h0 : 1 ≤ xs.length) (h1 : xs.length ≤ 64) (hne : xs ≠ ys) : ¬ ge (allL w xs) (allL w ys) := by
  intro h
  obtain ⟨h2, h3⟩ := ge_split _ _ _ _ (by rw [ofL_length, ofL_length, hl]) h
  obtain ⟨h4, h5⟩ := ge_lk w _ _ h2 (ofL_lt w xs)
  have h6 := ge_valFrom (2 ^ w) _ _ 0 0 h3 (Nat.le_refl _)
  have hx := (lack_val w hw xs h0 h1).2.1
  have hy := (lack_val w hw ys (by omega) (by omega)).2.1
  unfold val at hx hy
  rw [hx, hy] at h6
  exact hne (ofL_inj w hw xs ys hl (h5 (by omega)))
theorem allL_length (w : Nat) (hw : wid w) (xs : List UInt8) (h0 : 1 ≤ xs.length) (h1 : xs.length ≤ 64) : (allL w xs).length = shU xs.length w + shV xs.length w := by
  have h := lack_val w hw xs h0 h1
  obtain ⟨_, _, _, f4, _⟩ := shape_facts xs.length w hw h0 h1
  have hw8 := wid_div hw
  rw [allL, List.length_append, ofL_length, f4, List.length_take, ofL_two w hw _ h.1, List.length_map, List.length_range, Nat.min_eq_left h.2.2]
theorem ge_of_all : ∀ ps qs : List Nat, ps.length = qs.length → (∀ i, i < ps.length → qs.getD i 0 ≤ ps.getD i 0) → ge ps qs
  | [], [], _, _ => trivial
  | a :: ps, b :: qs, hl, h => ⟨by have := h 0 (by simp); simpa using this, ge_of_all ps qs (by simpa using hl) (fun i hi => by have := h (i + 1) (by simp; omega); simpa using this)⟩
  | [], _ :: _, hl, _ => by simp at hl
  | _ :: _, [], hl, _ => by simp at hl
/-- Some digit is less. -/
theorem some_less (w : Nat) (hw : wid w) (xs ys : List UInt8) (hl : xs.length = ys.length) (h0 : 1 ≤ xs.length) (h1 : xs.length ≤ 64) (hne : xs ≠ ys) : ∃ i, i < shU xs.length w + shV xs.length w ∧ (allL w xs).getD i 0 < (allL w ys).getD i 0 := by
  have e1 := allL_length w hw xs h0 h1
  have e2 := allL_length w hw ys (by omega) (by omega)
  apply Classical.byContradiction
  intro h
  refine not_ge w hw xs ys hl h0 h1 hne (ge_of_all _ _ (by rw [e1, e2, hl]) fun i hi => ?_)
  apply Classical.byContradiction
  intro h9
  exact h ⟨i, by rw [e1] at hi; exact hi, by omega⟩
/-- The digit k of a row. -/
theorem ofL_at (w : Nat) (hw : wid w) : ∀ (xs : List UInt8) (k : Nat), k < xs.length * (8 / w) → (ofL w xs)[k]? = some (dg w (xs.getD (w * k / 8) 0).toNat (w * k % 8 / w))
  | [], k, h => by simp at h
  | x :: xs, k, h => by
    have h8 := wid_div hw
    have e : ofL w (x :: xs) = ofB w x.toNat ++ ofL w xs := by simp [ofL]
    rw [e]
    have hc : ∀ q, w * q / 8 = q / (8 / w) ∧ w * q % 8 / w = q % (8 / w) := by
      intro q
      rcases hw with h | h | h | h <;> subst h <;> simp <;> omega
    rw [(hc k).1, (hc k).2]
    by_cases hk : k < 8 / w
    · rw [List.getElem?_append_left (by rw [ofB_length]; exact hk), Nat.div_eq_of_lt hk, Nat.mod_eq_of_lt hk]
      simp [ofB, hk]
    · rw [List.getElem?_append_right (by rw [ofB_length]; omega), ofB_length, ofL_at w hw xs (k - 8 / w) (by rw [List.length_cons, Nat.succ_mul] at h; omega), (hc (k - 8 / w)).1, (hc (k - 8 / w)).2]
      have h9 : 0 < 8 / w := by rcases hw with h | h | h | h <;> subst h <;> decide
      obtain ⟨j, hj⟩ : ∃ j, k = j + 8 / w := ⟨k - 8 / w, by omega⟩
      rw [hj, Nat.add_sub_cancel, Nat.add_div_right _ h9, Nat.add_mod_right]
      simp
theorem ofL_take (w : Nat) (hw : wid w) (xs : List UInt8) (k : Nat) (h : k < xs.length * (8 / w)) : (ofL w xs).take (k + 1) = (ofL w xs).take k ++ [dg w (xs.getD (w * k / 8) 0).toNat (w * k % 8 / w)] := by
  rw [List.take_add_one, ofL_at w hw xs k h]
  rfl
/-- The first i bits of a digit, and one more. -/
theorem bit_step (x o i : Nat) (h : o + i < 8) : (x / 2 ^ (8 - o - i) % 2 ^ i) * 2 + x / 2 ^ (7 - (o + i)) % 2 = x / 2 ^ (8 - o - (i + 1)) % 2 ^ (i + 1) := by
  have e1 : 8 - o - i = (7 - (o + i)) + 1 := by omega
  have e2 : 8 - o - (i + 1) = 7 - (o + i) := by omega
  rw [e1, e2, Nat.pow_succ 2 (7 - (o + i)), ← Nat.div_div_eq_div_mul, Nat.pow_succ, Nat.mul_comm (2 ^ i) 2, Nat.mod_mul]
  omega
theorem bit_all (w x o : Nat) (hw : wid w) (ho : o % w = 0) (h8 : o < 8) : x / 2 ^ (8 - o - w) % 2 ^ w = dg w x (o / w) := by
  unfold dg
  congr 3
  rcases hw with h | h | h | h <;> subst h <;> omega
end Go.Proofs.YtkpfppiedadmbaaGreatDoor.S7
