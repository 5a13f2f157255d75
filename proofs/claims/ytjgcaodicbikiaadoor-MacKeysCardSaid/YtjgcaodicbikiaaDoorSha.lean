/-
  SHA-256 in plain words: lists of bytes and 32-bit words. No statement is proved here.
-/
import Derived.Test.YtjgcaodicbikiaaDoorWords
namespace Go.Proofs.YtjgcaodicbikiaaDoor.S2
set_option linter.unusedSimpArgs false
set_option linter.unusedVariables false

def ad (x y : UInt32) : UInt32 := x + y
def su (x y : UInt32) : UInt32 := x - y
def an (x y : UInt32) : UInt32 := x &&& y
def xo (x y : UInt32) : UInt32 := x ^^^ y
def no (x : UInt32) : UInt32 := ~~~x
def rotr (x : UInt32) (n : Nat) : UInt32 := UInt32.ofNat (x.toNat / 2 ^ n + x.toNat * 2 ^ (32 - n))
def shr (x : UInt32) (n : Nat) : UInt32 := UInt32.ofNat (x.toNat / 2 ^ n)
def smE (x : UInt32) : UInt32 := xo (xo (rotr x 7) (rotr x 18)) (shr x 3)
def smL (x : UInt32) : UInt32 := xo (xo (rotr x 17) (rotr x 19)) (shr x 10)
def bgA (x : UInt32) : UInt32 := xo (xo (rotr x 2) (rotr x 13)) (rotr x 22)
def bgE (x : UInt32) : UInt32 := xo (xo (rotr x 6) (rotr x 11)) (rotr x 25)

def kN : List Int := [1116352408, 1899447441, 3049323471, 3921009573, 961987163, 1508970993, 2453635748, 2870763221, 3624381080, 310598401, 607225278, 1426881987, 1925078388, 2162078206, 2614888103, 3248222580, 3835390401, 4022224774, 264347078, 604807628, 770255983, 1249150122, 1555081692, 1996064986, 2554220882, 2821834349, 2952996808, 3210313671, 3336571891, 3584528711, 113926993, 338241895, 666307205, 773529912, 1294757372, 1396182291, 1695183700, 1986661051, 2177026350, 2456956037, 2730485921, 2820302411, 3259730800, 3345764771, 3516065817, 3600352804, 4094571909, 275423344, 430227734, 506948616, 659060556, 883997877, 958139571, 1322822218, 1537002063, 1747873779, 1955562222, 2024104815, 2227730452, 2361852424, 2428436474, 2756734187, 3204031479, 3329325298]
def kT : List UInt32 := kN.map fun z => UInt32.ofNat z.toNat

structure St where
  a : UInt32
  b : UInt32
  c : UInt32
  d : UInt32
  e : UInt32
  f : UInt32
  g : UInt32
  h : UInt32
deriving DecidableEq

def t1 (s : St) (k w : UInt32) : UInt32 := ad (ad (ad (ad s.h (bgE s.e)) (xo (an s.e s.f) (an (no s.e) s.g))) k) w
def t2 (s : St) : UInt32 := ad (bgA s.a) (xo (xo (an s.a s.b) (an s.a s.c)) (an s.b s.c))
def St.step (s : St) (k w : UInt32) : St := ⟨ad (t1 s k w) (t2 s), s.a, s.b, s.c, ad s.d (t1 s k w), s.e, s.f, s.g⟩
def St.add (s t : St) : St := ⟨ad s.a t.a, ad s.b t.b, ad s.c t.c, ad s.d t.d, ad s.e t.e, ad s.f t.f, ad s.g t.g, ad s.h t.h⟩
def rnds (ws : List UInt32) (s : St) : Nat → St
  | 0 => s
  | k + 1 => (rnds ws s k).step (kT.getD k 0) (ws.getD k 0)
/-- The words that follow, k of them. -/
def ext (ws : List UInt32) : Nat → List UInt32
  | 0 => ws
  | k + 1 => ext ws k ++ [ad (ad (ad (smL ((ext ws k).getD (14 + k) 0)) ((ext ws k).getD (9 + k) 0)) (smE ((ext ws k).getD (1 + k) 0))) ((ext ws k).getD k 0)]
/-- The t-th word of a block. -/
def w4 (xs : List UInt8) (t : Nat) : UInt32 := UInt32.ofNat (getL ((xs.drop (4 * t)).take 4))
def first16 (xs : List UInt8) : Nat → List UInt32
  | 0 => []
  | k + 1 => first16 xs k ++ [w4 xs k]
def wds (xs : List UInt8) : List UInt32 := ext (first16 xs 16) 48
def turn (s : St) (xs : List UInt8) : St := s.add (rnds (wds xs) s 64)
def hH : St := ⟨1779033703, 3144134277, 1013904242, 2773480762, 1359893119, 2600822924, 528734635, 1541459225⟩
/-- The state behind k blocks. -/
def turns (s : St) (xs : List UInt8) : Nat → St
  | 0 => s
  | k + 1 => turn (turns s xs k) ((xs.drop (64 * k)).take 64)
def pad (xs : List UInt8) : List UInt8 := xs ++ (128 :: List.replicate (63 - (xs.length + 8) % 64) 0) ++ putL (8 * xs.length) 8
def St.list (s : St) : List UInt32 := [s.a, s.b, s.c, s.d, s.e, s.f, s.g, s.h]
def outL (s : St) : List UInt8 := s.list.flatMap fun x => putL x.toNat 4
def sum (xs : List UInt8) : List UInt8 := outL (turns hH (pad xs) ((pad xs).length / 64))

theorem first16_length (xs : List UInt8) (k : Nat) : (first16 xs k).length = k := by
  induction k with
  | zero => rfl
  | succ k ih => simp [first16, ih]
theorem ext_length (ws : List UInt32) (k : Nat) : (ext ws k).length = ws.length + k := by
  induction k with
  | zero => rfl
  | succ k ih => simp [ext, ih]; omega
theorem wds_length (xs : List UInt8) : (wds xs).length = 64 := by simp [wds, ext_length, first16_length]
theorem kT_length : kT.length = 64 := rfl

set_option maxRecDepth 100000 in
theorem sum_abc : sum [97, 98, 99] = [0xba, 0x78, 0x16, 0xbf, 0x8f, 0x01, 0xcf, 0xea, 0x41, 0x41, 0x40, 0xde, 0x5d, 0xae, 0x22, 0x23, 0xb0, 0x03, 0x61, 0xa3, 0x96, 0x17, 0x7a, 0x9c, 0xb4, 0x10, 0xff, 0x61, 0xf2, 0x00, 0x15, 0xad] := by
  decide +kernel
end Go.Proofs.YtjgcaodicbikiaaDoor.S2
