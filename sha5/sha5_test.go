package sha5_test

import (
	"bytes"
	"crypto/sha512"
	"encoding/hex"
	"math"
	"math/big"
	"strings"
	"testing"

	"tearoff/api"
	"tearoff/rows"
	"tearoff/sha5"
)

// sumLen and blockLen are the bytes of a sum and of a block.
const (
	sumLen   = 64
	blockLen = 128
)

// published are texts, and their sums as others have told them.
var published = []struct {
	text, sum string
}{
	{"", "cf83e1357eefb8bdf1542850d66d8007d620e4050b5715dc83f4a921d36ce9ce47d0d13c5d85f2b0ff8318d2877eec2f63b931bd47417a81a538327af927da3e"},
	{"abc", "ddaf35a193617abacc417349ae20413112e6fa4e89a97ea20a9eeee64b55d39a2192992a274fc1a836ba3c23a3feebbd454d4423643ce80e2a9ac94fa54ca49f"},
	{"\xd0", "9992202938e882e73e20f6b69e68a0a7149090423d93c81bab3f21678d4aceeee50e4e8cafada4c85a54ea8306826c4ad6e74cece9631bfa8a549b4ab3fbba15"},
	{"abcdbcdecdefdefgefghfghighijhijkijkljklmklmnlmnomnopnopq", "204a8fc6dda82f0a0ced7beb8e08a41657c16ef468b228a8279be331a703c33596fd15c13b1b07f9aa1d3bea57789ca031ad85c7a71dd70354ec631238ca3445"},
	{"abcdefghbcdefghicdefghijdefghijkefghijklfghijklmghijklmnhijklmnoijklmnopjklmnopqklmnopqrlmnopqrsmnopqrstnopqrstu", "8e959b75dae313da8cf4f72814fc143f8f7779c6eb9f7fa17299aeadb6889018501d289e4900f7e4331b99dec4b5433ac7d329eeb6dd26545e96e55b874be909"},
	{strings.Repeat("\x00", 111), "77ddd3a542e530fd047b8977c657ba6ce72f1492e360b2b2212cd264e75ec03882e4ff0525517ab4207d14c70c2259ba88d4d335ee0e7e20543d22102ab1788c"},
	{strings.Repeat("\x00", 112), "2be2e788c8a8adeaa9c89a7f78904cacea6e39297d75e0573a73c756234534d6627ab4156b48a6657b29ab8beb73334040ad39ead81446bb09c70704ec707952"},
	{strings.Repeat("\x00", 113), "0e67910bcf0f9ccde5464c63b9c850a12a759227d16b040d98986d54253f9f34322318e56b8feb86c5fb2270ed87f31252f7f68493ee759743909bd75e4bb544"},
	{strings.Repeat("\x00", 122), "4f3f095d015be4a7a7cc0b8c04da4aa09e74351e3a97651f744c23716ebd9b3e822e5077a01baa5cc0ed45b9249e88ab343d4333539df21ed229da6f4a514e0f"},
	{strings.Repeat("\x00", 1000), "ca3dff61bb23477aa6087b27508264a6f9126ee3a004f53cb8db942ed345f2f2d229b4b59c859220a1cf1913f34248e3803bab650e849a3d9a709edc09ae4a76"},
	{strings.Repeat("A", 1000), "329c52ac62d1fe731151f2b895a00475445ef74f50b979c6f7bb7cae349328c1d4cb4f7261a0ab43f936a24b000651d4a824fcdd577f211aef8f806b16afe8af"},
	{strings.Repeat("a", 1000000), "e718483d0ce769644e2e42c7bc15b4638e1f98b13b2044285632a803afa973ebde0ff244877ea60a4cb0432ce577c31beb009c5c2c49aa2e4eadb217ad8cc09b"},
}

// lengths are those at which a text's end falls otherwise into its last block, and some greater ones.
var lengths = []int{0, 1, 2, 110, 111, 112, 113, 119, 120, 126, 127, 128, 129, 130, 238, 239, 240, 241, 255, 256, 257, 367, 368, 383, 384, 385, 1000, 4095, 4096, api.MaxText - 1, api.MaxText, api.MaxText + 1}

// edges are lengths around a sum, a block's end, and the place of the count.
var edges = []int{1, 63, 64, 65, 111, 112, 124, 127, 128, 129, 239, 240, 256}

// known: the sum of b, from elsewhere.
func known(b []byte) []byte {
	s := sha512.Sum512(b)
	return s[:]
}

// expect tells where a sum isn't the known one of a text.
func expect(t *testing.T, what string, got, text []byte) {
	t.Helper()
	if want := known(text); !bytes.Equal(got, want) {
		t.Errorf("%s: the sum of %v bytes is %x, not %x", what, len(text), got, want)
	}
}

// parted: b in parts, the i-th of which has size(i) bytes, or as many as are left.
func parted(b []byte, size func(i int) int) [][]byte {
	var out [][]byte
	for len(b) > 0 {
		n := min(size(len(out)), len(b))
		out = append(out, b[:n])
		b = b[n:]
	}
	return out
}

// cubeBits: the first 64 bits behind the point of the cube root of p, found bit by bit.
func cubeBits(p int64) uint64 {
	limit := new(big.Int).Lsh(big.NewInt(p), 192)
	root := new(big.Int)
	for bit := 67; bit >= 0; bit-- {
		more := new(big.Int).SetBit(root, bit, 1)
		if new(big.Int).Exp(more, big.NewInt(3), nil).Cmp(limit) <= 0 {
			root = more
		}
	}
	behind := new(big.Int).SetUint64(math.MaxUint64)
	return behind.And(behind, root).Uint64()
}

// P3.1: One and Parts, of texts whose sums are published, the chapter's example among them.
func TestPublished(t *testing.T) {
	for _, c := range published {
		b := []byte(c.text)
		for _, got := range [][]byte{sha5.One(b), sha5.Parts(b)} {
			if hex.EncodeToString(got) != c.sum {
				t.Errorf("P3.1: %.20q, %v bytes: %x, not %v", c.text, len(b), got, c.sum)
			}
		}
	}
}

// P3.1: a text without bytes, and no parts at all.
func TestNothing(t *testing.T) {
	for _, got := range [][]byte{
		sha5.One(nil), sha5.One([]byte{}), sha5.One(rows.Guarded(nil)),
		sha5.Parts(), sha5.Parts([][]byte{}...), sha5.Parts(nil...), sha5.Parts(nil, nil), sha5.Parts([]byte{}, nil, rows.Guarded(nil)),
	} {
		if hex.EncodeToString(got) != published[0].sum {
			t.Errorf("P3.1: the sum of nothing: %x, not %v", got, published[0].sum)
		}
	}
}

// P3.1: One, of texts of every length around the ends of blocks, and of long ones.
func TestOneLengths(t *testing.T) {
	for n := range 5 * blockLen {
		b := rows.Mixed(n, 1)
		expect(t, "P3.1: One", sha5.One(b), b)
	}
	for _, n := range lengths {
		for _, b := range [][]byte{rows.Mixed(n, 2), make([]byte, n), bytes.Repeat([]byte{128}, n), bytes.Repeat([]byte{255}, n)} {
			expect(t, "P3.1: One", sha5.One(b), b)
		}
	}
}

// P3.1: each bit of a text of two blocks tells in its sum.
func TestOneBits(t *testing.T) {
	b := make([]byte, 2*blockLen)
	for i := range 8 * len(b) {
		b[i/8] = 1 << (i % 8)
		expect(t, "P3.1: One, of one bit", sha5.One(b), b)
		b[i/8] = 0
	}
}

// P3.1: the count of bits has more than 32 of them, where a text has more than 2^29 bytes.
func TestCountIsLong(t *testing.T) {
	if testing.Short() {
		t.Skip("long")
	}
	part := rows.Mixed(1<<24, 3)
	var parts [][]byte
	other := sha512.New()
	for range 33 {
		parts = append(parts, part)
		other.Write(part)
	}
	if got, want := sha5.Parts(parts...), other.Sum(nil); !bytes.Equal(got, want) {
		t.Errorf("P3.1: of %v bytes: %x, not %x", 33<<24, got, want)
	}
}

// P3.1: K, at every place and outside of it.
func TestK(t *testing.T) {
	for i, p := range rows.Primes(80) {
		if got, want := sha5.K(i), cubeBits(p); got != want {
			t.Errorf("P3.1: K(%v): %#x, not %#x", i, got, want)
		}
	}
	if got := [4]uint64{sha5.K(0), sha5.K(1), sha5.K(78), sha5.K(79)}; got != [4]uint64{0x428a2f98d728ae22, 0x7137449123ef65cd, 0x5fcb6fab3ad6faec, 0x6c44198c4a475817} {
		t.Errorf("P3.1: K(0), K(1), K(78), K(79): %#x", got)
	}
	for _, i := range []int{-1, -2, -79, -80, 80, 81, 127, 128, 160, 256, 1 << 32, 1<<32 + 1, math.MaxInt32, math.MinInt32, math.MaxInt, math.MinInt} {
		if got := sha5.K(i); got != 0 {
			t.Errorf("P3.1: K(%v): %#x, not 0", i, got)
		}
	}
}

// P3.1: One looks at nothing but its text, changes nothing of it, and answers memory of its own.
func TestOneKeepsApart(t *testing.T) {
	for _, n := range edges {
		b := rows.Guarded(rows.Mixed(n, 4))
		was := rows.Full(b)
		got := sha5.One(b)
		if rows.Full(b) != was {
			t.Errorf("P3.1: One changed its text of %v bytes", n)
		}
		expect(t, "P3.1: One, with spare room", got, b)
		rows.Flip(got[:cap(got)])
		if rows.Full(b) != was {
			t.Errorf("P3.1: One's answer shares a text of %v bytes", n)
		}
		expect(t, "P3.1: One, behind an answer that was written over", sha5.One(b), b)
		got = sha5.One(b)
		kept := bytes.Clone(got)
		rows.Flip(b[:cap(b)])
		sha5.One(b)
		if !bytes.Equal(got, kept) {
			t.Errorf("P3.1: One's answer hangs on its text of %v bytes", n)
		}
	}
}

// P3.1: Parts likewise, and the list of parts stays as it was.
func TestPartsKeepApart(t *testing.T) {
	for _, n := range edges {
		text := rows.Mixed(n, 5)
		a, b := rows.Guarded(text[:n/3]), rows.Guarded(text[n/3:])
		parts := [][]byte{a, nil, b, []byte("behind")}[:3]
		wasA, wasB := rows.Full(a), rows.Full(b)
		got := sha5.Parts(parts...)
		expect(t, "P3.1: Parts, with spare room", got, text)
		rows.Flip(got[:cap(got)])
		expect(t, "P3.1: Parts, behind an answer that was written over", sha5.Parts(parts...), text)
		if rows.Full(a) != wasA || rows.Full(b) != wasB {
			t.Errorf("P3.1: Parts changed, or its answer shares, parts of %v and %v bytes", len(a), len(b))
		}
		list := parts[:4]
		if rows.Full(list[0]) != wasA || list[1] != nil || rows.Full(list[2]) != wasB || string(list[3]) != "behind" {
			t.Errorf("P3.1: Parts changed the list of its parts: %q", list)
		}
		got = sha5.Parts(parts...)
		rows.Flip(a)
		rows.Flip(b)
		sha5.Parts(parts...)
		expect(t, "P3.1: Parts, whose parts were written over", got, text)
	}
}

// P3.1: parts that share memory are summed as often as they are named, each up to its own end.
func TestPartsThatShare(t *testing.T) {
	b := rows.Mixed(300, 6)
	for _, n := range edges {
		expect(t, "P3.1: one part twice", sha5.Parts(b[:n], b[:n]), append(bytes.Clone(b[:n]), b[:n]...))
		expect(t, "P3.1: parts that overlap", sha5.Parts(b[:n], b[n/2:n+1], b[n:]), append(append(bytes.Clone(b[:n]), b[n/2:n+1]...), b[n:]...))
	}
	x, y := []byte("x"), []byte("y")
	expect(t, "P3.1: x ahead of y", sha5.Parts(x, y), []byte("xy"))
	expect(t, "P3.1: y ahead of x", sha5.Parts(y, x), []byte("yx"))
}

// P3.2: in whatever two parts a text comes, none among them, its sum is the same, and has 64 bytes.
func TestTwoParts(t *testing.T) {
	for _, n := range []int{0, 1, 111, 112, 127, 128, 129, 239, 240, 255, 256, 257, 400} {
		b := rows.Mixed(n, 7)
		for cut := range n + 1 {
			two, more := sha5.Parts(b[:cut], b[cut:]), sha5.Parts(nil, b[:cut], nil, []byte{}, b[cut:], nil)
			expect(t, "P3.2: two parts", two, b)
			expect(t, "P3.2: two parts and none between", more, b)
			if one := sha5.One(b); len(one) != sumLen || !bytes.Equal(one, two) || !bytes.Equal(one, more) {
				t.Errorf("P3.2: %v bytes, parted at %v: %x, %x, not %x", n, cut, two, more, one)
			}
		}
	}
}

// P3.2: likewise in parts of every one size, and in parts of sizes that grow and fall, none among them.
func TestManyParts(t *testing.T) {
	b := rows.Mixed(1000, 8)
	for size := 1; size <= 300; size++ {
		alike := parted(b, func(int) int { return size })
		growing := parted(b, func(i int) int { return (i*size + i%2) % 259 })
		expect(t, "P3.2: parts alike", sha5.Parts(alike...), b)
		expect(t, "P3.2: parts that grow", sha5.Parts(growing...), b)
	}
}

// P3.2: likewise of the published texts, byte by byte and half by half.
func TestPartsPublished(t *testing.T) {
	for _, c := range published {
		b := []byte(c.text)
		bytewise := parted(b, func(int) int { return 1 })
		for _, got := range [][]byte{sha5.Parts(bytewise...), sha5.Parts(b[:len(b)/2], b[len(b)/2:])} {
			if hex.EncodeToString(got) != c.sum {
				t.Errorf("P3.2: %.20q, %v bytes: %x, not %v", c.text, len(b), got, c.sum)
			}
		}
	}
}

// P3.2: a sum has 64 bytes, whatever the text.
func TestSumLength(t *testing.T) {
	for _, n := range lengths {
		b := rows.Mixed(n, 9)
		if one, parts := sha5.One(b), sha5.Parts(b, b); len(one) != sumLen || len(parts) != sumLen {
			t.Errorf("P3.2: sums of %v and %v bytes have %v and %v", n, 2*n, len(one), len(parts))
		}
	}
}
