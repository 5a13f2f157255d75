/-
  SHA-512 in plain words: lists of bytes and 64-bit words. No statement is proved here.
-/
import Derived.Test.YtjgcaodicbikiaaDoorWords
namespace Go.Proofs.YtjgcaodicbikiaaDoor.S5
set_option linter.unusedSimpArgs false
set_option linter.unusedVariables false

def ad (x y : UInt64) : UInt64 := x + y
def su (x y : UInt64) : UInt64 := x - y
def an (x y : UInt64) : UInt64 := x &&& y
def xo (x y : UInt64) : UInt64 := x ^^^ y
def no (x : UInt64) : UInt64 := ~~~x
def rotr (x : UInt64) (n : Nat) : UInt64 := UInt64.ofNat (x.toNat / 2 ^ n + x.toNat * 2 ^ (64 - n))
def shr (x : UInt64) (n : Nat) : UInt64 := UInt64.ofNat (x.toNat / 2 ^ n)
def smE (x : UInt64) : UInt64 := xo (xo (rotr x 1) (rotr x 8)) (shr x 7)
def smL (x : UInt64) : UInt64 := xo (xo (rotr x 19) (rotr x 61)) (shr x 6)
def bgA (x : UInt64) : UInt64 := xo (xo (rotr x 28) (rotr x 34)) (rotr x 39)
def bgE (x : UInt64) : UInt64 := xo (xo (rotr x 14) (rotr x 18)) (rotr x 41)

def kN : List Int := [4794697086780616226, 8158064640168781261, 13096744586834688815, 16840607885511220156, 4131703408338449720, 6480981068601479193, 10538285296894168987, 12329834152419229976, 15566598209576043074, 1334009975649890238, 2608012711638119052, 6128411473006802146, 8268148722764581231, 9286055187155687089, 11230858885718282805, 13951009754708518548, 16472876342353939154, 17275323862435702243, 1135362057144423861, 2597628984639134821, 3308224258029322869, 5365058923640841347, 6679025012923562964, 8573033837759648693, 10970295158949994411, 12119686244451234320, 12683024718118986047, 13788192230050041572, 14330467153632333762, 15395433587784984357, 489312712824947311, 1452737877330783856, 2861767655752347644, 3322285676063803686, 5560940570517711597, 5996557281743188959, 7280758554555802590, 8532644243296465576, 9350256976987008742, 10552545826968843579, 11727347734174303076, 12113106623233404929, 14000437183269869457, 14369950271660146224, 15101387698204529176, 15463397548674623760, 17586052441742319658, 1182934255886127544, 1847814050463011016, 2177327727835720531, 2830643537854262169, 3796741975233480872, 4115178125766777443, 5681478168544905931, 6601373596472566643, 7507060721942968483, 8399075790359081724, 8693463985226723168, 9568029438360202098, 10144078919501101548, 10430055236837252648, 11840083180663258601, 13761210420658862357, 14299343276471374635, 14566680578165727644, 15097957966210449927, 16922976911328602910, 17689382322260857208, 500013540394364858, 748580250866718886, 1242879168328830382, 1977374033974150939, 2944078676154940804, 3659926193048069267, 4368137639120453308, 4836135668995329356, 5532061633213252278, 6448918945643986474, 6902733635092675308, 7801388544844847127]
def kT : List UInt64 := kN.map fun z => UInt64.ofNat z.toNat

structure St where
  a : UInt64
  b : UInt64
  c : UInt64
  d : UInt64
  e : UInt64
  f : UInt64
  g : UInt64
  h : UInt64
deriving DecidableEq

def t1 (s : St) (k w : UInt64) : UInt64 := ad (ad (ad (ad s.h (bgE s.e)) (xo (an s.e s.f) (an (no s.e) s.g))) k) w
def t2 (s : St) : UInt64 := ad (bgA s.a) (xo (xo (an s.a s.b) (an s.a s.c)) (an s.b s.c))
def St.step (s : St) (k w : UInt64) : St := ⟨ad (t1 s k w) (t2 s), s.a, s.b, s.c, ad s.d (t1 s k w), s.e, s.f, s.g⟩
def St.add (s t : St) : St := ⟨ad s.a t.a, ad s.b t.b, ad s.c t.c, ad s.d t.d, ad s.e t.e, ad s.f t.f, ad s.g t.g, ad s.h t.h⟩
def rnds (ws : List UInt64) (s : St) : Nat → St
  | 0 => s
  | k + 1 => (rnds ws s k).step (kT.getD k 0) (ws.getD k 0)
/-- The words that follow, k of them. -/
def ext (ws : List UInt64) : Nat → List UInt64
  | 0 => ws
  | k + 1 => ext ws k ++ [ad (ad (ad (smL ((ext ws k).getD (14 + k) 0)) ((ext ws k).getD (9 + k) 0)) (smE ((ext ws k).getD (1 + k) 0))) ((ext ws k).getD k 0)]
/-- The t-th word of a block. -/
def w8 (xs : List UInt8) (t : Nat) : UInt64 := UInt64.ofNat (getL ((xs.drop (8 * t)).take 8))
def first16 (xs : List UInt8) : Nat → List UInt64
  | 0 => []
  | k + 1 => first16 xs k ++ [w8 xs k]
def wds (xs : List UInt8) : List UInt64 := ext (first16 xs 16) 64
def turn (s : St) (xs : List UInt8) : St := s.add (rnds (wds xs) s 80)
def hH : St := ⟨7640891576956012808, 13503953896175478587, 4354685564936845355, 11912009170470909681, 5840696475078001361, 11170449401992604703, 2270897969802886507, 6620516959819538809⟩
/-- The state behind k blocks. -/
def turns (s : St) (xs : List UInt8) : Nat → St
  | 0 => s
  | k + 1 => turn (turns s xs k) ((xs.drop (128 * k)).take 128)
def pad (xs : List UInt8) : List UInt8 := xs ++ (128 :: List.replicate (127 - (xs.length + 16) % 128) 0) ++ (List.replicate 8 0 ++ putL (8 * xs.length) 8)
def St.list (s : St) : List UInt64 := [s.a, s.b, s.c, s.d, s.e, s.f, s.g, s.h]
def outL (s : St) : List UInt8 := s.list.flatMap fun x => putL x.toNat 8
def sum (xs : List UInt8) : List UInt8 := outL (turns hH (pad xs) ((pad xs).length / 128))

theorem first16_length (xs : List UInt8) (k : Nat) : (first16 xs k).length = k := by
  induction k with
  | zero => rfl
  | succ k ih => simp [first16, ih]
theorem ext_length (ws : List UInt64) (k : Nat) : (ext ws k).length = ws.length + k := by
  induction k with
  | zero => rfl
  | succ k ih => simp [ext, ih]; omega
theorem wds_length (xs : List UInt8) : (wds xs).length = 80 := by simp [wds, ext_length, first16_length]
theorem kT_length : kT.length = 80 := rfl

set_option maxRecDepth 100000 in
theorem sum_abc : sum [97, 98, 99] = [0xdd, 0xaf, 0x35, 0xa1, 0x93, 0x61, 0x7a, 0xba, 0xcc, 0x41, 0x73, 0x49, 0xae, 0x20, 0x41, 0x31, 0x12, 0xe6, 0xfa, 0x4e, 0x89, 0xa9, 0x7e, 0xa2, 0x0a, 0x9e, 0xee, 0xe6, 0x4b, 0x55, 0xd3, 0x9a, 0x21, 0x92, 0x99, 0x2a, 0x27, 0x4f, 0xc1, 0xa8, 0x36, 0xba, 0x3c, 0x23, 0xa3, 0xfe, 0xeb, 0xbd, 0x45, 0x4d, 0x44, 0x23, 0x64, 0x3c, 0xe8, 0x0e, 0x2a, 0x9a, 0xc9, 0x4f, 0xa5, 0x4c, 0xa4, 0x9f] := by
  decide +kernel
end Go.Proofs.YtjgcaodicbikiaaDoor.S5
