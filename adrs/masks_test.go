package adrs_test

import (
	"bytes"
	"crypto/sha256"
	"encoding/hex"
	"slices"
	"testing"

	"tearoff/adrs"
	"tearoff/api"
	"tearoff/rows"
	"tearoff/sha2"
)

// rowLen is how many bytes each row has that is summed with masks.
const rowLen = 32

// lengths are those of keys and texts: around a row's end, around the ends of blocks, and of some hundred bytes.
var lengths = []int{0, 1, 15, 16, 23, 24, 31, 32, 33, 55, 56, 63, 64, 65, 100, 128, 200, 333, 500}

// ahead: k as 32 bytes.
func ahead(k byte) []byte { return append(make([]byte, 31), k) }

// sum: the SHA-256 of all, one behind the other, as others sum it.
func sum(list ...[]byte) []byte {
	s := sha256.Sum256(slices.Concat(list...))
	return s[:]
}

// xor: a ^ b, of rows of 32 bytes.
func xor(a, b []byte) []byte {
	out := make([]byte, rowLen)
	for i := range out {
		out[i] = a[i] ^ b[i]
	}
	return out
}

// long: rows of 32 bytes: mixed ones, noughts, ones, and one with spare room.
func long(start byte) [][]byte {
	return [][]byte{rows.Mixed(rowLen, start), make([]byte, rowLen), bytes.Repeat([]byte{255}, rowLen), rows.Guarded(rows.Mixed(rowLen, start+1))}
}

// some: addresses that differ in all their numbers, and in some.
func some() []api.Adrs {
	out := []api.Adrs{{}, full().Adrs, {Layer: 1}, {Tree: 1 << 32}, {Kind: 1}, {A: 1}, {B: 1}, {C: 1}}
	for start := range byte(8) {
		out = append(out, mixed(start).Adrs)
	}
	return out
}

// expectNum tells where Num isn't SHA-256 of its number, its key and its text, by layer 2 and by others.
func expectNum(t *testing.T, k byte, key, text []byte) {
	t.Helper()
	got := adrs.Num(k, key, text)
	expect(t, got, sum(ahead(k), key, text), "P14.1: Num", k, len(key), len(text))
	expect(t, got, sha2.One(slices.Concat(ahead(k), key, text)), "P14.1: Num, by layer 2", k, len(key), len(text))
}

// P14.1: Num and Prf, of keys and texts of many lengths.
func TestNum(t *testing.T) {
	for _, n := range lengths {
		for _, m := range lengths {
			key, text := rows.Mixed(n, 1), rows.Mixed(m, 2)
			for _, k := range []byte{0, 1, 2, 3, 4, 128, 255} {
				expectNum(t, k, key, text)
			}
			expect(t, adrs.Prf(key, text), sum(ahead(3), key, text), "P14.1: Prf", n, m)
			expect(t, adrs.Prf(key, text), adrs.Num(3, key, text), "P14.1: Prf is num of 3", n, m)
		}
	}
}

// P14.1: Num, of every number k.
func TestNumNumbers(t *testing.T) {
	for _, n := range []int{0, 31, 32, 33, 300} {
		told := map[string]bool{}
		for k := range 256 {
			expectNum(t, byte(k), rows.Mixed(n, 3), rows.Mixed(n, 4))
			told[string(adrs.Num(byte(k), rows.Mixed(n, 3), rows.Mixed(n, 4)))] = true
		}
		if len(told) != 256 {
			t.Errorf("P14.1: Num, of 256 numbers k: %v sums", len(told))
		}
	}
}

// P14.1: Num, of keys and texts of nothing but 0, whose sums are published; of none that are nil or empty.
func TestNumNothing(t *testing.T) {
	for _, c := range []struct {
		n    int
		want string
	}{
		{0, "66687aadf862bd776c8fc18b8e9f8e20089714856ee233b3902a591d0d5f2925"},
		{32, "f5a5fd42d16a20302798ef6ed309979b43003d2320d9f0e8ea9831a92759fb4b"},
	} {
		for n := range c.n + 1 {
			if got := hex.EncodeToString(adrs.Num(0, make([]byte, n), make([]byte, c.n-n))); got != c.want {
				t.Errorf("P14.1: Num, of %v bytes 0: %v, not %v", c.n, got, c.want)
			}
		}
	}
	for _, b := range [][]byte{nil, {}, rows.Guarded(nil)} {
		for _, k := range []byte{0, 1, 3, 255} {
			expect(t, adrs.Num(k, b, b), sum(ahead(k)), "P14.1: Num, of nothing", k)
			expect(t, adrs.Num(k, b, []byte("text")), sum(ahead(k), []byte("text")), "P14.1: Num, no key", k)
			expect(t, adrs.Num(k, []byte("key"), b), sum(ahead(k), []byte("key")), "P14.1: Num, no text", k)
		}
		expect(t, adrs.Prf(b, b), sum(ahead(3)), "P14.1: Prf, of nothing")
	}
}

// P14.1: keys and texts have no bound.
func TestNumLong(t *testing.T) {
	for _, n := range []int{api.MaxText - 1, api.MaxText, api.MaxText + 1, 3*api.MaxText + 7} {
		b := rows.Mixed(n, 5)
		expectNum(t, 1, b, []byte("text"))
		expectNum(t, 1, []byte("key"), b)
		expect(t, adrs.Prf(b, b), sum(ahead(3), b, b), "P14.1: Prf, long", n)
	}
}

// P14.1: a key and a text are taken as they stand, the key first.
func TestNumOrder(t *testing.T) {
	a, b := rows.Mixed(32, 6), rows.Mixed(64, 7)
	if bytes.Equal(adrs.Num(0, a, b), adrs.Num(0, b, a)) || bytes.Equal(adrs.Prf(a, b), adrs.Prf(b, a)) {
		t.Error("P14.1: a key and a text exchanged: the same sum")
	}
	c := rows.Mixed(200, 8)
	for n := range c {
		expect(t, adrs.Num(9, c[:n], c[n/2:]), sum(ahead(9), c[:n], c[n/2:]), "P14.1: Num, of a key and a text that share memory", n)
	}
	expect(t, c, rows.Mixed(200, 8), "P14.1: Num, what is shared")
}

// fByHand, hByHand: what F and H must answer, from Num and Prf.
func fByHand(seed []byte, a api.Adrs, x []byte) []byte {
	key, mask := adrs.Prf(seed, bytesByHand(a, 0)), adrs.Prf(seed, bytesByHand(a, 1))
	return adrs.Num(0, key, xor(x, mask))
}

func hByHand(seed []byte, a api.Adrs, left, right []byte) []byte {
	key, first, second := adrs.Prf(seed, bytesByHand(a, 0)), adrs.Prf(seed, bytesByHand(a, 1)), adrs.Prf(seed, bytesByHand(a, 2))
	return adrs.Num(1, key, append(xor(left, first), xor(right, second)...))
}

// told: what prf of a seed and an address with k is, as others sum it.
func told(seed []byte, a api.Adrs, k uint32) []byte { return sum(ahead(3), seed, bytesByHand(a, k)) }

// expectF, expectH tell where F and H aren't what they must be, from Num and Prf, and as others sum it.
func expectF(t *testing.T, seed []byte, a api.Adrs, x []byte) {
	t.Helper()
	got := adrs.F(seed, a, x)
	expect(t, got, fByHand(seed, a, x), "P14.2: F", a)
	expect(t, got, sum(ahead(0), told(seed, a, 0), xor(x, told(seed, a, 1))), "P14.2: F, as others sum it", a)
}

func expectH(t *testing.T, seed []byte, a api.Adrs, left, right []byte) {
	t.Helper()
	got := adrs.H(seed, a, left, right)
	expect(t, got, hByHand(seed, a, left, right), "P14.2: H", a)
	expect(t, got, sum(ahead(1), told(seed, a, 0), xor(left, told(seed, a, 1)), xor(right, told(seed, a, 2))), "P14.2: H, as others sum it", a)
}

// P14.2: F and H of many seeds, addresses and rows, left and right the same and exchanged.
func TestMasked(t *testing.T) {
	for _, seed := range long(11) {
		for _, a := range some() {
			// What is its own mask is summed as noughts.
			list := append(long(13), seed, told(seed, a, 1), told(seed, a, 2))
			for i, x := range list {
				expectF(t, seed, a, x)
				for j, y := range list {
					expectH(t, seed, a, x, y)
					if !bytes.Equal(x, y) && bytes.Equal(adrs.H(seed, a, x, y), adrs.H(seed, a, y, x)) {
						t.Errorf("P14.2: H, of the rows %v and %v exchanged: the same", i, j)
					}
				}
			}
		}
	}
}

// P14.2: each byte of a seed and of a row tells.
func TestMaskedBytes(t *testing.T) {
	seed, x, y, a := rows.Mixed(rowLen, 15), rows.Mixed(rowLen, 16), rows.Mixed(rowLen, 17), mixed(18).Adrs
	one, two := map[string]bool{}, map[string]bool{}
	expectBoth := func(seed, x, y []byte) {
		t.Helper()
		expectF(t, seed, a, x)
		expectH(t, seed, a, x, y)
		one[string(adrs.F(seed, a, x))], two[string(adrs.H(seed, a, x, y))] = true, true
	}
	expectBoth(seed, x, y)
	for at := range rowLen {
		expectBoth(rows.Turned(seed, at), x, y)
		expectBoth(seed, rows.Turned(x, at), y)
		expectBoth(seed, x, rows.Turned(y, at))
	}
	if len(one) != 1+2*rowLen || len(two) != 1+3*rowLen {
		t.Errorf("P14.2: %v sums of F, %v of H, not %v and %v", len(one), len(two), 1+2*rowLen, 1+3*rowLen)
	}
}

// P14.2, P14.3: each bit of an address tells in F, in H and in Tweak.
func TestAddressTells(t *testing.T) {
	seed, x, y := rows.Mixed(rowLen, 19), rows.Mixed(rowLen, 20), rows.Mixed(rowLen, 21)
	for _, ground := range grounds() {
		list := []api.Adrs{ground.Adrs}
		for _, part := range parts()[:6] {
			for i := range 8 * part.size {
				list = append(list, turnedBit(part, ground, i).Adrs)
			}
		}
		sums := map[string]bool{}
		for _, a := range list {
			expectF(t, seed, a, x)
			expectH(t, seed, a, x, y)
			for _, b := range [][]byte{adrs.F(seed, a, x), adrs.H(seed, a, x, y), adrs.Tweak(32, seed, a, x)} {
				sums[string(b)] = true
			}
		}
		if len(sums) != 3*len(list) {
			t.Errorf("P14.2: of %v addresses: %v sums, not %v", len(list), len(sums), 3*len(list))
		}
	}
}

// P14.2: nothing of F and H, if a seed or a row hasn't 32 bytes, each alone, some, and all.
func TestMaskedRefused(t *testing.T) {
	seed, x, y := rows.Mixed(rowLen, 25), rows.Mixed(rowLen, 26), rows.Mixed(rowLen, 27)
	for _, a := range []api.Adrs{{}, mixed(28).Adrs} {
		for _, b := range rows.Wrong(rowLen) {
			n := len(b)
			nothing(t, adrs.F(b, a, x), "P14.2: F, bytes of the seed", n)
			nothing(t, adrs.F(seed, a, b), "P14.2: F, bytes of x", n)
			nothing(t, adrs.F(b, a, b), "P14.2: F, bytes of both", n)
			nothing(t, adrs.H(b, a, x, y), "P14.2: H, bytes of the seed", n)
			nothing(t, adrs.H(seed, a, b, y), "P14.2: H, bytes of left", n)
			nothing(t, adrs.H(seed, a, x, b), "P14.2: H, bytes of right", n)
			nothing(t, adrs.H(seed, a, b, b), "P14.2: H, bytes of left and right", n)
			nothing(t, adrs.H(b, a, b, y), "P14.2: H, bytes of the seed and left", n)
			nothing(t, adrs.H(b, a, x, b), "P14.2: H, bytes of the seed and right", n)
			nothing(t, adrs.H(b, a, b, b), "P14.2: H, bytes of all", n)
		}
		// Two rows that have 64 bytes together aren't two of 32.
		nothing(t, adrs.H(seed, a, x[:31], rows.Mixed(33, 29)), "P14.2: H, 31 and 33 bytes")
		nothing(t, adrs.H(seed, a, nil, rows.Mixed(64, 29)), "P14.2: H, 0 and 64 bytes")
		expectF(t, seed, a, x)
		expectH(t, seed, a, x, y)
	}
}
