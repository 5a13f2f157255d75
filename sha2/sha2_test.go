package sha2_test

import (
	"bytes"
	"crypto/sha256"
	"encoding"
	"encoding/binary"
	"encoding/hex"
	"math"
	"math/big"
	"strings"
	"testing"

	"tearoff/api"
	"tearoff/rows"
	"tearoff/sha2"
)

// sumLen and blockLen are the bytes of a sum and of a block.
const (
	sumLen   = 32
	blockLen = 64
)

// published are texts, and their sums as others have told them.
var published = []struct {
	text, sum string
}{
	{"", "e3b0c44298fc1c149afbf4c8996fb92427ae41e4649b934ca495991b7852b855"},
	{"abc", "ba7816bf8f01cfea414140de5dae2223b00361a396177a9cb410ff61f20015ad"},
	{"\xbd", "68325720aabd7c82f30f554b313d0570c95accbb7dc4b5aae11204c08ffe732b"},
	{"\xc9\x8c\x8e\x55", "7abc22c0ae5af26ce93dbb94433a0e0b2e119d014f8e7f65bd56c61ccccd9504"},
	{"abcdbcdecdefdefgefghfghighijhijkijkljklmklmnlmnomnopnopq", "248d6a61d20638b8e5c026930c3e6039a33ce45964ff2167f6ecedd419db06c1"},
	{"abcdefghbcdefghicdefghijdefghijkefghijklfghijklmghijklmnhijklmnoijklmnopjklmnopqklmnopqrlmnopqrsmnopqrstnopqrstu", "cf5b16a778af8380036ce59e7b0492370b249b11e8f07a51afac45037afee9d1"},
	{strings.Repeat("\x00", 55), "02779466cdec163811d078815c633f21901413081449002f24aa3e80f0b88ef7"},
	{strings.Repeat("\x00", 56), "d4817aa5497628e7c77e6b606107042bbba3130888c5f47a375e6179be789fbb"},
	{strings.Repeat("\x00", 57), "65a16cb7861335d5ace3c60718b5052e44660726da4cd13bb745381b235a1785"},
	{strings.Repeat("\x00", 64), "f5a5fd42d16a20302798ef6ed309979b43003d2320d9f0e8ea9831a92759fb4b"},
	{strings.Repeat("\x00", 1000), "541b3e9daa09b20bf85fa273e5cbd3e80185aa4ec298e765db87742b70138a53"},
	{strings.Repeat("A", 1000), "c2e686823489ced2017f6059b8b239318b6364f6dcd835d0a519105a1eadd6e4"},
	{strings.Repeat("a", 1000000), "cdc76e5c9914fb9281a1c7e284d73e67f1809a48a497200e046d39ccc7112cd0"},
}

// lengths are those at which a text's end falls otherwise into its last block, and some greater ones.
var lengths = []int{0, 1, 2, 54, 55, 56, 57, 62, 63, 64, 65, 118, 119, 120, 121, 127, 128, 129, 183, 184, 191, 192, 193, 1000, 4095, 4096, api.MaxText - 1, api.MaxText, api.MaxText + 1}

// known: the sum of b, from elsewhere.
func known(b []byte) []byte {
	s := sha256.Sum256(b)
	return s[:]
}

// written: the sum of a text that is written in these parts.
func written(parts ...[]byte) []byte {
	h := sha2.New()
	for _, p := range parts {
		h.Write(p)
	}
	return h.Sum()
}

// expect tells where a sum isn't the known one of a text.
func expect(t *testing.T, what string, got, text []byte) {
	t.Helper()
	if want := known(text); !bytes.Equal(got, want) {
		t.Errorf("%s: the sum of %v bytes is %x, not %x", what, len(text), got, want)
	}
}

// squareBits: the first 32 bits behind the point of the square root of p.
func squareBits(p int64) uint32 {
	x := new(big.Int).Lsh(big.NewInt(p), 64)
	return uint32(x.Sqrt(x).Uint64())
}

// cubeBits: the first 32 bits behind the point of the cube root of p, found bit by bit.
func cubeBits(p int64) uint32 {
	limit := new(big.Int).Lsh(big.NewInt(p), 96)
	var root uint64
	for bit := 39; bit >= 0; bit-- {
		x := new(big.Int).SetUint64(root | 1<<bit)
		if x.Exp(x, big.NewInt(3), nil).Cmp(limit) <= 0 {
			root |= 1 << bit
		}
	}
	return uint32(root)
}

// first: the state ahead of all blocks.
func first() [8]uint32 {
	var out [8]uint32
	for i, p := range rows.Primes(8) {
		out[i] = squareBits(p)
	}
	return out
}

// turned: the state behind a block, from elsewhere: from a sum that is kept as bytes and taken up again.
func turned(t *testing.T, state [8]uint32, block [blockLen]byte) [8]uint32 {
	t.Helper()
	kept := []byte("sha\x03")
	for _, w := range state {
		kept = binary.BigEndian.AppendUint32(kept, w)
	}
	kept = append(kept, make([]byte, blockLen+8)...)
	h := sha256.New()
	if err := h.(encoding.BinaryUnmarshaler).UnmarshalBinary(kept); err != nil {
		t.Fatal(err)
	}
	h.Write(block[:])
	kept, err := h.(encoding.BinaryMarshaler).MarshalBinary()
	if err != nil {
		t.Fatal(err)
	}
	var out [8]uint32
	for i := range out {
		out[i] = binary.BigEndian.Uint32(kept[4+4*i:])
	}
	return out
}

// P2.1: One, of texts whose sums are published, the chapter's example among them.
func TestOnePublished(t *testing.T) {
	for _, c := range published {
		if got := hex.EncodeToString(sha2.One([]byte(c.text))); got != c.sum {
			t.Errorf("P2.1: One(%.20q, %v bytes): %v, not %v", c.text, len(c.text), got, c.sum)
		}
	}
	if got := hex.EncodeToString(sha2.One(nil)); got != published[0].sum {
		t.Errorf("P2.1: One(nil): %v", got)
	}
}

// P2.1: One, of texts of every length around the ends of blocks, and of long ones.
func TestOneLengths(t *testing.T) {
	for n := range 5 * blockLen {
		b := rows.Mixed(n, 1)
		expect(t, "P2.1: One", sha2.One(b), b)
	}
	for _, n := range lengths {
		for _, b := range [][]byte{rows.Mixed(n, 2), make([]byte, n), bytes.Repeat([]byte{128}, n), bytes.Repeat([]byte{255}, n)} {
			expect(t, "P2.1: One", sha2.One(b), b)
		}
	}
}

// P2.1: the count of bits has more than 32 of them, where a text has more than 2^29 bytes.
func TestCountIsLong(t *testing.T) {
	if testing.Short() {
		t.Skip("long")
	}
	part := rows.Mixed(1<<24, 3)
	h, other := sha2.New(), sha256.New()
	for range 33 {
		h.Write(part)
		other.Write(part)
	}
	if got, want := h.Sum(), other.Sum(nil); !bytes.Equal(got, want) {
		t.Errorf("P2.1: of %v bytes: %x, not %x", 33<<24, got, want)
	}
}

// P2.1: One looks at nothing but its text, changes nothing of it, and answers memory of its own.
func TestOneKeepsApart(t *testing.T) {
	for _, n := range []int{1, 31, 32, 55, 56, 60, 63, 64, 65, 128} {
		b := rows.Guarded(rows.Mixed(n, 4))
		was := rows.Full(b)
		got := sha2.One(b)
		if rows.Full(b) != was {
			t.Errorf("P2.1: One changed its text of %v bytes", n)
		}
		expect(t, "P2.1: One, with spare room", got, b)
		rows.Flip(got[:cap(got)])
		if rows.Full(b) != was {
			t.Errorf("P2.1: One's answer shares a text of %v bytes", n)
		}
		expect(t, "P2.1: One, behind an answer that was written over", sha2.One(b), b)
	}
}

// P2.1: Turn, from the first state, by the one block of abc and by the two of a longer text.
func TestTurnIsSum(t *testing.T) {
	for _, c := range published[:6] {
		text := append([]byte(c.text), 128)
		for len(text)%blockLen != blockLen-8 {
			text = append(text, 0)
		}
		text = binary.BigEndian.AppendUint64(text, uint64(8*len(c.text)))
		state := first()
		for len(text) > 0 {
			state = sha2.Turn(state, [blockLen]byte(text))
			text = text[blockLen:]
		}
		var got []byte
		for _, w := range state {
			got = binary.BigEndian.AppendUint32(got, w)
		}
		if hex.EncodeToString(got) != c.sum {
			t.Errorf("P2.1: Turn by the blocks of %q: %x, not %v", c.text, got, c.sum)
		}
	}
}

// P2.1: Turn, from any state, the wrap of its sums among them; what is handed in stays as it was.
func TestTurnAny(t *testing.T) {
	words := func(start byte) (out [8]uint32) {
		b := rows.Mixed(32, start)
		for i := range out {
			out[i] = binary.BigEndian.Uint32(b[4*i:])
		}
		return out
	}
	var ones [8]uint32
	for i := range ones {
		ones[i] = math.MaxUint32
	}
	states := [][8]uint32{{}, ones, first(), words(5), words(6)}
	for i := range 8 {
		var one, high [8]uint32
		one[i], high[i] = 1, 1<<31
		states = append(states, one, high)
	}
	blocks := [][blockLen]byte{{}, [blockLen]byte(bytes.Repeat([]byte{255}, blockLen)), [blockLen]byte(rows.Mixed(blockLen, 7))}
	for i := range blockLen {
		var one [blockLen]byte
		one[i] = 1
		blocks = append(blocks, one)
	}
	for _, s := range states {
		for _, b := range blocks {
			state, block := s, b
			want := turned(t, s, b)
			if got := sha2.Turn(state, block); got != want {
				t.Errorf("P2.1: Turn(%x, %x): %x, not %x", s, b, got, want)
			}
			if state != s || block != b {
				t.Errorf("P2.1: Turn(%x, %x) changed what it was handed", s, b)
			}
			if got := sha2.Turn(state, block); got != want {
				t.Errorf("P2.1: Turn(%x, %x) for the second time: %x, not %x", s, b, got, want)
			}
		}
	}
}

// P2.1: K, at every place and outside of it.
func TestK(t *testing.T) {
	for i, p := range rows.Primes(64) {
		if got, want := sha2.K(i), cubeBits(p); got != want {
			t.Errorf("P2.1: K(%v): %#x, not %#x", i, got, want)
		}
	}
	if got := [4]uint32{sha2.K(0), sha2.K(1), sha2.K(62), sha2.K(63)}; got != [4]uint32{0x428a2f98, 0x71374491, 0xbef9a3f7, 0xc67178f2} {
		t.Errorf("P2.1: K(0), K(1), K(62), K(63): %#x", got)
	}
	for _, i := range []int{-1, -2, -63, -64, 64, 65, 127, 128, 256, 1 << 32, 1<<32 + 1, math.MaxInt32, math.MinInt32, math.MaxInt, math.MinInt} {
		if got := sha2.K(i); got != 0 {
			t.Errorf("P2.1: K(%v): %#x, not 0", i, got)
		}
	}
}

// P2.2: New is of a text of no bytes, and stays so, if none are written.
func TestNew(t *testing.T) {
	expect(t, "P2.2: New", written(), nil)
	expect(t, "P2.2: nothing is written", written(nil, []byte{}, nil), nil)
	expect(t, "P2.2: New behind others", sha2.New().Sum(), nil)
}

// P2.2: Sum is that of all that was written, each time that it is asked for, and can be gone on with.
func TestSumBetween(t *testing.T) {
	b := rows.Mixed(6*blockLen, 8)
	for step := 1; step < 2*blockLen; step++ {
		h := sha2.New()
		for at := 0; at+step <= len(b); at += step {
			h.Write(b[at : at+step])
			once, twice := h.Sum(), h.Sum()
			expect(t, "P2.2: Sum between", once, b[:at+step])
			expect(t, "P2.2: Sum twice", twice, b[:at+step])
		}
	}
}

// P2.2: what was answered may be written over, and doesn't change behind the call.
func TestSumKeepsApart(t *testing.T) {
	for _, n := range []int{0, 3, 32, 55, 56, 63, 64, 65, 128} {
		b := rows.Mixed(n, 9)
		h := sha2.New()
		h.Write(b)
		one := h.Sum()
		if len(one) != sumLen {
			t.Errorf("P2.2: a sum of %v bytes", len(one))
		}
		rows.Flip(one[:cap(one)])
		two := h.Sum()
		expect(t, "P2.2: Sum, behind an answer that was written over", two, b)
		h.Write([]byte("more"))
		expect(t, "P2.2: Sum, ahead of more bytes", two, b)
		rows.Flip(two)
		expect(t, "P2.2: Sum, gone on with", h.Sum(), append(b, "more"...))
		expect(t, "P2.2: New, behind an answer that was written over", sha2.New().Sum(), nil)
	}
}

// P2.2: what is written isn't kept, nor changed, nor its spare room looked at.
func TestWriteKeepsApart(t *testing.T) {
	for _, n := range []int{1, 32, 55, 56, 60, 63, 64, 65, 100, 127, 128, 130} {
		text := rows.Mixed(n, 10)
		b := rows.Guarded(text)
		was := rows.Full(b)
		h := sha2.New()
		h.Write(b)
		got := h.Sum()
		if rows.Full(b) != was {
			t.Errorf("P2.2: what was written, %v bytes, was changed", n)
		}
		expect(t, "P2.2: with spare room", got, text)
		rows.Flip(b[:cap(b)])
		expect(t, "P2.2: written over behind Write", h.Sum(), text)
		h.Write(b)
		expect(t, "P2.2: written over and written again", h.Sum(), append(text, b...))
	}
}

// P2.2: two texts that are summed side by side don't touch each other.
func TestSideBySide(t *testing.T) {
	a, b := rows.Mixed(500, 11), rows.Mixed(500, 12)
	for step := 1; step <= 130; step += 3 {
		one, two := sha2.New(), sha2.New()
		for at := 0; at+step <= len(a); at += step {
			one.Write(a[at : at+step])
			two.Write(b[at : at+step])
			sha2.One(a)
			expect(t, "P2.2: the first of two", one.Sum(), a[:at+step])
			expect(t, "P2.2: the second of two", two.Sum(), b[:at+step])
		}
	}
	for _, h := range []*sha2.Hash{sha2.New(), sha2.New()} {
		h.Write(a)
		expect(t, "P2.2: one behind the other", h.Sum(), a)
	}
}

// P2.3: in whatever two parts a text is written, none among them, its sum is the same.
func TestTwoParts(t *testing.T) {
	for _, n := range []int{0, 1, 55, 56, 63, 64, 65, 119, 120, 127, 128, 129, 200} {
		b := rows.Mixed(n, 13)
		for cut := range n + 1 {
			expect(t, "P2.3: two parts", written(b[:cut], b[cut:]), b)
			expect(t, "P2.3: two parts and none between", written(nil, b[:cut], nil, []byte{}, b[cut:], nil), b)
		}
	}
}

// P2.3: likewise in parts of every one size, and in parts of sizes that grow and fall.
func TestManyParts(t *testing.T) {
	b := rows.Mixed(1000, 14)
	for size := 1; size <= 300; size++ {
		var alike, growing [][]byte
		for rest := b; len(rest) > 0; {
			n := min(size, len(rest))
			alike = append(alike, rest[:n])
			rest = rest[n:]
		}
		for rest := b; len(rest) > 0; {
			n := min((len(growing)*size+1)%131, len(rest))
			growing = append(growing, rest[:n])
			rest = rest[n:]
		}
		expect(t, "P2.3: parts alike", written(alike...), b)
		expect(t, "P2.3: parts that grow", written(growing...), b)
	}
}

// P2.3: likewise of the published texts, byte by byte and half by half, and as One tells it.
func TestPartsPublished(t *testing.T) {
	for _, c := range published {
		b := []byte(c.text)
		h := sha2.New()
		for i := range b {
			h.Write(b[i : i+1])
		}
		half := written(b[:len(b)/2], b[len(b)/2:])
		for _, got := range [][]byte{h.Sum(), half, written(b), sha2.One(b)} {
			if hex.EncodeToString(got) != c.sum {
				t.Errorf("P2.3: %.20q, %v bytes: %x, not %v", c.text, len(b), got, c.sum)
			}
		}
	}
}
