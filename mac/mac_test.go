package mac_test

import (
	"bytes"
	"crypto/hmac"
	"crypto/sha256"
	"crypto/sha512"
	"encoding/binary"
	"encoding/hex"
	"hash"
	"math"
	"strings"
	"testing"

	"tearoff/api"
	"tearoff/mac"
	"tearoff/rows"
)

// kinds are those that there are: their number, the bytes of a sum and of a block, and their sums from elsewhere.
var kinds = []struct {
	k, size, block int
	other          func() hash.Hash
}{
	{0, 32, 64, sha256.New},
	{1, 64, 128, sha512.New},
}

// none are numbers of which there is no kind.
var none = []int{-1, -2, 2, 3, 4, 32, 64, 128, 254, 255, 256, 257, 1 << 16, math.MaxInt32, math.MinInt32, 1 << 32, 1<<32 + 1, math.MaxInt, math.MinInt, math.MinInt + 1}

// refused are counts of which there is no mask.
var refused = []int{-1, -2, -32, -64, -api.MaxText, math.MinInt32, math.MinInt, math.MinInt + 1, api.MaxText + 1, api.MaxText + 64, 2 * api.MaxText, 1 << 31, 1 << 32, 1<<32 + 1, math.MaxInt}

// published are keys and texts, and their sums with a key, of each kind, as others have told them.
var published = []struct {
	key, text string
	sums      [2]string
}{
	{"", "", [2]string{
		"b613679a0814d9ec772f95d778c35fc5ff1697c493715653c6c712144292c5ad",
		"b936cee86c9f87aa5d3c6f2e84cb5a4239a5fe50480a6ec66b70ab5b1f4ac6730c6c515421b327ec1d69402e53dfb49ad7381eb067b338fd7b0cb22247225d47"}},
	{"key", "The quick brown fox jumps over the lazy dog", [2]string{
		"f7bc83f430538424b13298e6aa6fb143ef4d59a14946175997479dbc2d1a3cd8",
		"b42af09057bac1e2d41708e48a902e09b5ff7f12ab428a4fe86653c73dd248fb82f948a549f7b791a5b41915ee4d1ec3935357e4e2317250d0372afa2ebeeb3a"}},
	{strings.Repeat("\x0b", 20), "Hi There", [2]string{
		"b0344c61d8db38535ca8afceaf0bf12b881dc200c9833da726e9376c2e32cff7",
		"87aa7cdea5ef619d4ff0b4241a1d6cb02379f4e2ce4ec2787ad0b30545e17cdedaa833b7d6b8a702038b274eaea3f4e4be9d914eeb61f1702e696c203a126854"}},
	{"Jefe", "what do ya want for nothing?", [2]string{
		"5bdcc146bf60754e6a042426089575c75a003f089d2739839dec58b964ec3843",
		"164b7a7bfcf819e2e395fbe73b56e0a387bd64222e831fd610270cd7ea2505549758bf75c05a994a6d034f65f8f0e6fdcaeab1a34d4a6b4b636e070a38bce737"}},
	{strings.Repeat("\xaa", 20), strings.Repeat("\xdd", 50), [2]string{
		"773ea91e36800e46854db8ebd09181a72959098b3ef8c122d9635514ced565fe",
		"fa73b0089d56a284efb0f0756c890be9b1b5dbdd8ee81a3655f83e33b2279d39bf3e848279a722c806b485a47e67c807b946a337bee8942674278859e13292fb"}},
	{"\x01\x02\x03\x04\x05\x06\x07\x08\x09\x0a\x0b\x0c\x0d\x0e\x0f\x10\x11\x12\x13\x14\x15\x16\x17\x18\x19", strings.Repeat("\xcd", 50), [2]string{
		"82558a389a443c0ea4cc819899f2083a85f0faa3e578f8077a2e3ff46729665b",
		"b0ba465637458c6990e5a8c5f61d4af7e576d97ff94b872de76f8050361ee3dba91ca5c11aa25eb4d679275cc5788063a5f19741120c4f2de2adebeb10a298dd"}},
	{strings.Repeat("\xaa", 131), "Test Using Larger Than Block-Size Key - Hash Key First", [2]string{
		"60e431591ee0b67f0d8a26aacbf5b77f8e0bc6213728c5140546040f0ee37f54",
		"80b24263c7c1a3ebb71493c1dd7be8b49b46d1f41b4aeec1121b013783f8f3526b56d037e05f2598bd0fd2215d6a1e5295e64f73f63f0aec8b915a985d786598"}},
	{strings.Repeat("\xaa", 131), "This is a test using a larger than block-size key and a larger than block-size data. The key needs to be hashed before being used by the HMAC algorithm.", [2]string{
		"9b09ffa71b942fcb27635fbcd5b0e944bfdc63644f0713938a7f51535c3a35e2",
		"e37b6a775dc87dbaa4dfa9f96e5e3ffddebd71f8867289865df5a32d20cdc944b6022cac3c4982b10d5eeb55c3e4de15134676fb6de0446065c97440fa8c6a58"}},
}

// lengths are those of texts and keys around a sum's end and the ends of both kinds' blocks.
var lengths = []int{0, 1, 31, 32, 33, 55, 56, 63, 64, 65, 111, 112, 127, 128, 129, 192, 255, 256, 257, 1000}

// known, knownMac, knownMask: what Sum, Mac and Mask must answer, from elsewhere.
func known(other func() hash.Hash, b []byte) []byte {
	h := other()
	h.Write(b)
	return h.Sum(nil)
}

func knownMac(other func() hash.Hash, key, text []byte) []byte {
	h := hmac.New(other, key)
	h.Write(text)
	return h.Sum(nil)
}

func knownMask(other func() hash.Hash, text []byte, n int) []byte {
	var out []byte
	for i := uint32(0); len(out) < n; i++ {
		out = append(out, known(other, binary.BigEndian.AppendUint32(bytes.Clone(text), i))...)
	}
	return out[:n]
}

// unhex: the bytes that a text tells.
func unhex(t *testing.T, s string) []byte {
	t.Helper()
	b, err := hex.DecodeString(s)
	if err != nil {
		t.Fatal(err)
	}
	return b
}

// expect tells where bytes aren't those that they must be.
func expect(t *testing.T, what string, k int, got, want []byte) {
	t.Helper()
	if !bytes.Equal(got, want) {
		t.Errorf("%s, kind %v: %v bytes, %.100x, not %v, %.100x", what, k, len(got), got, len(want), want)
	}
}

// P6.1: Size, of the kinds that there are, the chapter's example among them, and of none.
func TestSize(t *testing.T) {
	for _, c := range kinds {
		if size, block := mac.Size(c.k); size != c.size || block != c.block {
			t.Errorf("P6.1: Size(%v): %v, %v, not %v, %v", c.k, size, block, c.size, c.block)
		}
	}
	for _, k := range none {
		if size, block := mac.Size(k); size != 0 || block != 0 {
			t.Errorf("P6.1: Size(%v): %v, %v, not 0, 0", k, size, block)
		}
	}
}

// P6.1: Sum, of texts whose sums are published.
func TestSumPublished(t *testing.T) {
	for _, c := range []struct {
		text string
		sums [2]string
	}{
		{"", [2]string{"e3b0c44298fc1c149afbf4c8996fb92427ae41e4649b934ca495991b7852b855", "cf83e1357eefb8bdf1542850d66d8007d620e4050b5715dc83f4a921d36ce9ce47d0d13c5d85f2b0ff8318d2877eec2f63b931bd47417a81a538327af927da3e"}},
		{"abc", [2]string{"ba7816bf8f01cfea414140de5dae2223b00361a396177a9cb410ff61f20015ad", "ddaf35a193617abacc417349ae20413112e6fa4e89a97ea20a9eeee64b55d39a2192992a274fc1a836ba3c23a3feebbd454d4423643ce80e2a9ac94fa54ca49f"}},
	} {
		for k, want := range c.sums {
			expect(t, "P6.1: Sum, published", k, mac.Sum(k, []byte(c.text)), unhex(t, want))
		}
	}
}

// P6.1: Sum, of texts of every length around the ends of blocks, and of long ones.
func TestSumLengths(t *testing.T) {
	for _, c := range kinds {
		for n := range 4 * c.block {
			b := rows.Mixed(n, 1)
			expect(t, "P6.1: Sum", c.k, mac.Sum(c.k, b), known(c.other, b))
		}
		for _, n := range []int{4096, api.MaxText - 1, api.MaxText, api.MaxText + 1, 1<<20 + 7} {
			b := rows.Mixed(n, 2)
			expect(t, "P6.1: Sum, of a long text", c.k, mac.Sum(c.k, b), known(c.other, b))
		}
	}
}

// P6.1: Mac, of keys and texts whose sums are published.
func TestMacPublished(t *testing.T) {
	for _, c := range published {
		for k, want := range c.sums {
			expect(t, "P6.1: Mac, published", k, mac.Mac(k, []byte(c.key), []byte(c.text)), unhex(t, want))
		}
	}
}

// P6.1: Mac, of keys of every length up to several blocks (none, a block less one, a block, a block and one among them).
func TestMacKeys(t *testing.T) {
	for _, c := range kinds {
		for n := range 3*c.block + 2 {
			text := rows.Mixed(40, 3)
			for _, key := range [][]byte{rows.Mixed(n, 4), make([]byte, n), bytes.Repeat([]byte{54}, n), bytes.Repeat([]byte{92}, n), bytes.Repeat([]byte{255}, n)} {
				expect(t, "P6.1: Mac, by its key", c.k, mac.Mac(c.k, key, text), knownMac(c.other, key, text))
			}
		}
		for _, n := range []int{1000, 4096, api.MaxText, api.MaxText + 1} {
			key, text := rows.Mixed(n, 5), rows.Mixed(40, 6)
			expect(t, "P6.1: Mac, of a long key", c.k, mac.Mac(c.k, key, text), knownMac(c.other, key, text))
		}
	}
}

// P6.1: each bit of a key of a block tells in the sum.
func TestMacKeyBits(t *testing.T) {
	for _, c := range kinds {
		key := make([]byte, c.block)
		for i := range 8 * len(key) {
			key[i/8] = 1 << (i % 8)
			expect(t, "P6.1: Mac, of one bit", c.k, mac.Mac(c.k, key, nil), knownMac(c.other, key, nil))
			key[i/8] = 0
		}
	}
}

// P6.1: Mac, of texts of every length up to several blocks, none among them, and of long ones.
func TestMacTexts(t *testing.T) {
	for _, c := range kinds {
		for _, length := range []int{0, 7, c.size, c.block, c.block + 1} {
			key := rows.Mixed(length, 7)
			for n := range 3 * c.block {
				text := rows.Mixed(n, 8)
				expect(t, "P6.1: Mac, by its text", c.k, mac.Mac(c.k, key, text), knownMac(c.other, key, text))
			}
			for _, n := range []int{api.MaxText, api.MaxText + 1, 1<<20 + 7} {
				text := rows.Mixed(n, 9)
				expect(t, "P6.1: Mac, of a long text", c.k, mac.Mac(c.k, key, text), knownMac(c.other, key, text))
			}
		}
	}
}

// P6.1: a key and a text of no byte may be nil or empty.
func TestNothing(t *testing.T) {
	for _, c := range kinds {
		for _, b := range [][]byte{nil, {}, rows.Guarded(nil)} {
			expect(t, "P6.1: Sum of nothing", c.k, mac.Sum(c.k, b), known(c.other, nil))
			expect(t, "P6.1: Mac, no key", c.k, mac.Mac(c.k, b, []byte("text")), knownMac(c.other, nil, []byte("text")))
			expect(t, "P6.1: Mac, no text", c.k, mac.Mac(c.k, []byte("key"), b), knownMac(c.other, []byte("key"), nil))
			expect(t, "P6.1: Mac, neither", c.k, mac.Mac(c.k, b, b), knownMac(c.other, nil, nil))
			expect(t, "P6.1: Mask of nothing", c.k, mac.Mask(c.k, b, 100), knownMask(c.other, nil, 100))
		}
	}
}

// P6.1: a mask that is published.
func TestMaskPublished(t *testing.T) {
	want := unhex(t, "382576a7841021cc28fc4c0948753fb8312090cea942ea4c4e735d10dc724b155f9f6069f289d61daca0cb814502ef04eae1")
	expect(t, "P6.1: Mask, published", 0, mac.Mask(0, []byte("bar"), 50), want)
}

// P6.1: Mask, of every count up to several sums (none, one, a sum, a sum and one among them).
func TestMaskCounts(t *testing.T) {
	for _, c := range kinds {
		for _, length := range lengths {
			text := rows.Mixed(length, 10)
			want := knownMask(c.other, text, 5*c.size+2)
			for n := range len(want) + 1 {
				expect(t, "P6.1: Mask", c.k, mac.Mask(c.k, text, n), want[:n])
			}
		}
	}
}

// P6.1: long masks, whose numbers have more than one byte, up to the greatest one.
func TestMaskLong(t *testing.T) {
	for _, c := range kinds {
		text := rows.Mixed(50, 11)
		want := knownMask(c.other, text, api.MaxText)
		for _, n := range []int{255 * c.size, 256 * c.size, 256*c.size + 1, 257*c.size + 1, 40000, api.MaxText - c.size, api.MaxText - 1, api.MaxText} {
			expect(t, "P6.1: Mask, long", c.k, mac.Mask(c.k, text, n), want[:n])
		}
	}
}

// P6.1: the mask of a long text: there is no bound to a text.
func TestMaskOfLongText(t *testing.T) {
	for _, c := range kinds {
		for _, n := range []int{api.MaxText, api.MaxText + 1, 1<<20 + 7} {
			text := rows.Mixed(n, 12)
			expect(t, "P6.1: Mask, of a long text", c.k, mac.Mask(c.k, text, 300), knownMask(c.other, text, 300))
		}
	}
}

// P6.1: nothing, of a count below 0 or above MaxText.
func TestMaskRefused(t *testing.T) {
	for _, c := range kinds {
		for _, n := range refused {
			if got := mac.Mask(c.k, []byte("text"), n); len(got) != 0 {
				t.Errorf("P6.1: Mask(%v, text, %v): %v bytes", c.k, n, len(got))
			}
		}
	}
}

// P6.1: nothing, of no kind, whatever the rest.
func TestNoKind(t *testing.T) {
	for _, k := range none {
		for _, n := range lengths {
			b := rows.Mixed(n, 13)
			if len(mac.Sum(k, b)) != 0 || len(mac.Mac(k, b, b)) != 0 || len(mac.Mac(k, nil, b)) != 0 || len(mac.Mac(k, b, nil)) != 0 {
				t.Errorf("P6.1: something of kind %v, of %v bytes", k, n)
			}
			for _, count := range append([]int{0, 1, 32, 64, api.MaxText}, refused...) {
				if got := mac.Mask(k, b, count); len(got) != 0 {
					t.Errorf("P6.1: Mask(%v, %v bytes, %v): %v bytes", k, n, count, len(got))
				}
			}
		}
	}
}

// P6.2: a key that is longer than a block is as good as its sum; one of a block isn't.
func TestLongKeys(t *testing.T) {
	for _, c := range kinds {
		text := rows.Mixed(90, 14)
		for n := range 4 * c.block {
			key := rows.Mixed(n, 15)
			got, sum := mac.Mac(c.k, key, text), mac.Mac(c.k, mac.Sum(c.k, key), text)
			if len(got) != c.size || bytes.Equal(got, sum) != (n > c.block) {
				t.Errorf("P6.2: kind %v: a key of %v bytes: %x, its sum: %x", c.k, n, got, sum)
			}
		}
	}
}

// P6.2: bytes 0 behind a key change nothing, up to a block; one more does, and so do those ahead of it.
func TestZerosBehind(t *testing.T) {
	for _, c := range kinds {
		text := rows.Mixed(90, 16)
		for n := range c.block {
			key := append(rows.Mixed(n, 17), 0)[:n]
			want := mac.Mac(c.k, key, text)
			for more := n; more <= c.block; more++ {
				behind := make([]byte, more)
				copy(behind, key)
				expect(t, "P6.2: bytes 0 behind a key", c.k, mac.Mac(c.k, behind, text), want)
			}
			long := make([]byte, c.block+1)
			copy(long, key)
			ahead := append([]byte{0}, key...)
			if len(want) != c.size || bytes.Equal(mac.Mac(c.k, long, text), want) || n > 0 && bytes.Equal(mac.Mac(c.k, ahead, text), want) {
				t.Errorf("P6.2: kind %v: a key of %v bytes: %x, also with bytes 0 up to a block and one, or with one ahead", c.k, n, want)
			}
		}
	}
}

// P6.2: of a longer mask the shorter one is the beginning.
func TestMaskBegins(t *testing.T) {
	for _, c := range kinds {
		for _, length := range lengths {
			text := rows.Mixed(length, 18)
			most := mac.Mask(c.k, text, 9*c.size)
			if len(most) != 9*c.size {
				t.Fatalf("P6.2: kind %v: a mask of %v bytes, not %v", c.k, len(most), 9*c.size)
			}
			for n := range len(most) + 1 {
				expect(t, "P6.2: the beginning of a mask", c.k, mac.Mask(c.k, text, n), most[:n])
			}
		}
	}
	most := mac.Mask(0, []byte("text"), api.MaxText)
	for _, n := range []int{0, 1, 32, 33, 10000, api.MaxText - 1} {
		expect(t, "P6.2: the beginning of the longest mask", 0, mac.Mask(0, []byte("text"), n), most[:min(n, len(most))])
	}
}

// P6.1: what was handed in stays as it was, its spare room too, and isn't shared nor kept.
func TestKeepsApart(t *testing.T) {
	for _, c := range kinds {
		for _, n := range lengths {
			for name, call := range map[string]func(key, text []byte) []byte{
				"Sum":                func(_, text []byte) []byte { return mac.Sum(c.k, text) },
				"Sum, of the key":    func(key, _ []byte) []byte { return mac.Sum(c.k, key) },
				"Mac":                func(key, text []byte) []byte { return mac.Mac(c.k, key, text) },
				"Mac, no text":       func(key, _ []byte) []byte { return mac.Mac(c.k, key, nil) },
				"Mac, of one":        func(key, _ []byte) []byte { return mac.Mac(c.k, key, key) },
				"Mask":               func(_, text []byte) []byte { return mac.Mask(c.k, text, 200) },
				"Mask, of a few":     func(_, text []byte) []byte { return mac.Mask(c.k, text, 5) },
				"Mask, of the sum":   func(_, text []byte) []byte { return mac.Mask(c.k, text, c.size) },
				"Mask, of none":      func(_, text []byte) []byte { return mac.Mask(c.k, text, 0) },
				"Mask, refused":      func(_, text []byte) []byte { return mac.Mask(c.k, text, -1) },
				"Mac, of no kind":    func(key, text []byte) []byte { return mac.Mac(2, key, text) },
				"Mask, of no kind":   func(_, text []byte) []byte { return mac.Mask(2, text, 5) },
				"Sum, of no kind":    func(_, text []byte) []byte { return mac.Sum(2, text) },
				"Mac, the other way": func(key, text []byte) []byte { return mac.Mac(c.k, text, key) },
			} {
				apart(t, name, n, call)
			}
		}
	}
}

// apart tells where a call changes its key or its text, or where its answer shares memory with them or with a later one.
func apart(t *testing.T, name string, n int, call func(key, text []byte) []byte) {
	t.Helper()
	how := rows.Apart(func(in [][]byte) []byte { return call(in[0], in[1]) }, rows.Mixed(n, 19), rows.Mixed(n+3, 20))
	if how != "" {
		t.Errorf("P6.1: %s, %v bytes: %v", name, n, how)
	}
}

// P6.1: a key and a text that share memory are taken as they stand, each up to its own end.
func TestShared(t *testing.T) {
	b := rows.Mixed(400, 21)
	for _, c := range kinds {
		for _, n := range lengths[:len(lengths)-1] {
			key, text := b[:n], b[n/2:n+50]
			expect(t, "P6.1: Mac, of a key and a text that share memory", c.k, mac.Mac(c.k, key, text), knownMac(c.other, key, text))
			expect(t, "P6.1: Mask, of a text within another", c.k, mac.Mask(c.k, text, 150), knownMask(c.other, text, 150))
		}
	}
	if !bytes.Equal(b, rows.Mixed(400, 21)) {
		t.Error("P6.1: what is shared was changed")
	}
}
