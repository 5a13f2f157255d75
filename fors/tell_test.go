package fors_test

import (
	"bytes"
	"crypto/sha256"
	"crypto/sha3"
	"encoding/hex"
	"slices"
	"testing"

	"tearoff/adrs"
	"tearoff/api"
	"tearoff/fors"
	"tearoff/rows"
)

// worked: the sum of a text at an address of the tree 0x102030405060708 and the number 0x90a0b0c, worked out as bytes.
func worked(seed, text []byte, kind, height, i byte) []byte {
	a := []byte{0, 0, 0, 0, 0, 0, 0, 0, 1, 2, 3, 4, 5, 6, 7, 8, 0, 0, 0, kind, 9, 10, 11, 12, 0, 0, 0, height, 0, 0, 0, i}
	return sha3.SumSHAKE256(slices.Concat(seed, a, text), len(seed))
}

// P17.2: Whole and Tell of K 1, A 1, worked out as bytes.
func TestSmallest(t *testing.T) {
	p := place{0x102030405060708, 0x90a0b0c}
	for _, n := range []int{16, 24, 32} {
		for _, m := range rows.MaskedsOf(n) {
			f := api.Few{N: n, Layers: 1, Height: 1, K: 1, A: 1}
			zero, one := worked(m.Seed, m.Secret, 6, 0, 0), worked(m.Seed, m.Secret, 6, 0, 1)
			left, right := worked(m.Seed, zero, 3, 0, 0), worked(m.Seed, one, 3, 0, 1)
			top := worked(m.Seed, slices.Concat(left, right), 3, 1, 0)
			whole := worked(m.Seed, top, 4, 0, 0)
			expect(t, p.whole(f, m), whole, "P17.2: Whole, worked out", n)
			expect(t, p.tell(f, m, []byte{0}), slices.Concat(zero, right), "P17.2: Tell, the digit 0", n)
			expect(t, p.tell(f, m, []byte{0x80}), slices.Concat(one, left), "P17.2: Tell, the digit 1", n)
			for _, means := range allMeans {
				g := means.grow(f, m, p)
				expect(t, g.whole, whole, "the whole, put together", n)
				expect(t, g.tell([]byte{0x80}), slices.Concat(one, left), "what is told, put together", n)
			}
		}
	}
}

// by is layer 14's tweak of a set's size and seed.
func by(f api.Few, m api.Masked) func(a api.Adrs, list ...[]byte) []byte {
	return func(a api.Adrs, list ...[]byte) []byte { return adrs.Tweak(f.N, m.Seed, a, slices.Concat(list...)) }
}

// P17.2: Whole and Tell of K 1, A 2, address by address.
func TestOneOfFour(t *testing.T) {
	for _, p := range places() {
		f, m := api.Few{N: 24, Layers: 4, Height: 2, K: 1, A: 2}, rows.MaskedOf(24, 21)
		tweak := by(f, m)
		var secrets, sums [][]byte
		for i := range uint32(4) {
			secrets = append(secrets, tweak(api.Adrs{Tree: p.tree, Kind: 6, A: p.q, C: i}, m.Secret))
			sums = append(sums, tweak(api.Adrs{Tree: p.tree, Kind: 3, A: p.q, C: i}, secrets[i]))
		}
		left := tweak(api.Adrs{Tree: p.tree, Kind: 3, A: p.q, B: 1, C: 0}, sums[0], sums[1])
		right := tweak(api.Adrs{Tree: p.tree, Kind: 3, A: p.q, B: 1, C: 1}, sums[2], sums[3])
		top := tweak(api.Adrs{Tree: p.tree, Kind: 3, A: p.q, B: 2, C: 0}, left, right)
		expect(t, p.whole(f, m), tweak(api.Adrs{Tree: p.tree, Kind: 4, A: p.q}, top), "P17.2: Whole", p)
		for d, want := range [][][]byte{{secrets[0], sums[1], right}, {secrets[1], sums[0], right}, {secrets[2], sums[3], left}, {secrets[3], sums[2], left}} {
			expect(t, p.tell(f, m, []byte{byte(d) << 6}), slices.Concat(want...), "P17.2: Tell", p, d)
		}
	}
}

// P17.2: the same of K 2, A 1: the second tree's sums are numbered behind the first one's.
func TestTwoOfTwo(t *testing.T) {
	for _, p := range places() {
		f, m := api.Few{N: 16, Layers: 1, Height: 6, K: 2, A: 1}, rows.MaskedOf(16, 22)
		tweak := by(f, m)
		var secrets, sums [][]byte
		for i := range uint32(4) {
			secrets = append(secrets, tweak(api.Adrs{Tree: p.tree, Kind: 6, A: p.q, C: i}, m.Secret))
			sums = append(sums, tweak(api.Adrs{Tree: p.tree, Kind: 3, A: p.q, C: i}, secrets[i]))
		}
		one := tweak(api.Adrs{Tree: p.tree, Kind: 3, A: p.q, B: 1, C: 0}, sums[0], sums[1])
		two := tweak(api.Adrs{Tree: p.tree, Kind: 3, A: p.q, B: 1, C: 1}, sums[2], sums[3])
		expect(t, p.whole(f, m), tweak(api.Adrs{Tree: p.tree, Kind: 4, A: p.q}, one, two), "P17.2: Whole", p)
		for d, want := range [][][]byte{{secrets[0], sums[1], secrets[2], sums[3]}, {secrets[0], sums[1], secrets[3], sums[2]}, {secrets[1], sums[0], secrets[2], sums[3]}, {secrets[1], sums[0], secrets[3], sums[2]}} {
			expect(t, p.tell(f, m, []byte{byte(d) << 6}), slices.Concat(want...), "P17.2: Tell", p, d)
		}
	}
}

// P17.2: the same of K 2, A 2, of all digits; each part stands at its place.
func TestTwoOfFour(t *testing.T) {
	p, f, m := place{5, 6}, api.Few{N: 32, Layers: 2, Height: 1, K: 2, A: 2}, rows.MaskedOf(32, 23)
	tweak := by(f, m)
	sum := func(b, c uint32, list ...[]byte) []byte {
		return tweak(api.Adrs{Layer: 0, Tree: 5, Kind: 3, A: 6, B: b, C: c}, list...)
	}
	var secrets, sums [][]byte
	for i := range uint32(8) {
		secrets = append(secrets, tweak(api.Adrs{Layer: 0, Tree: 5, Kind: 6, A: 6, B: 0, C: i}, m.Secret))
		sums = append(sums, sum(0, i, secrets[i]))
	}
	above := [][]byte{sum(1, 0, sums[0], sums[1]), sum(1, 1, sums[2], sums[3]), sum(1, 2, sums[4], sums[5]), sum(1, 3, sums[6], sums[7])}
	tops := [][]byte{sum(2, 0, above[0], above[1]), sum(2, 1, above[2], above[3])}
	expect(t, p.whole(f, m), tweak(api.Adrs{Layer: 0, Tree: 5, Kind: 4, A: 6, B: 0, C: 0}, tops...), "P17.2: Whole")
	for one := range 4 {
		for two := range 4 {
			// The lower half of the byte has no digits.
			told := p.tell(f, m, []byte{byte(one<<6 | two<<4 | 9)})
			if len(told) != 6*32 {
				t.Fatalf("P17.2: Tell, %v, %v: %v bytes", one, two, len(told))
			}
			for at, want := range [][]byte{
				secrets[one], sums[[]int{1, 0, 3, 2}[one]], above[[]int{1, 1, 0, 0}[one]],
				secrets[4+two], sums[[]int{5, 4, 7, 6}[two]], above[[]int{3, 3, 2, 2}[two]],
			} {
				expect(t, row(f, told, at), want, "P17.2: Tell, a part", one, two, at)
			}
		}
	}
}

// P17.2: Whole and Tell of small sets, of many secrets, put together.
func TestPutTogether(t *testing.T) {
	for _, f := range few() {
		for _, m := range rows.MaskedsOf(f.N) {
			for _, p := range []place{{}, {5, 6}, {1 << 63, 1 << 31}} {
				for _, means := range allMeans {
					g := means.grow(f, m, p)
					expect(t, p.whole(f, m), g.whole, "P17.2: Whole", f, p)
					for _, b := range enough(f, 24) {
						expect(t, p.tell(f, m, b), g.tell(b), "P17.2: Tell", f, p, b)
					}
				}
			}
		}
	}
}

// P17.2: the same at many places; no two have the same whole, nor what is told.
func TestPlaces(t *testing.T) {
	f, m, b := base, rows.MaskedOf(16, 25), []byte{0x60}
	told := map[string]place{}
	for _, p := range places() {
		g := byOthers.grow(f, m, p)
		expect(t, p.whole(f, m), g.whole, "P17.2: Whole", p)
		expect(t, p.tell(f, m, b), g.tell(b), "P17.2: Tell", p)
		for _, x := range [][]byte{p.whole(f, m), p.tell(f, m, b)} {
			if was, is := told[string(x)]; is && was != p {
				t.Errorf("P17.2: %v and %v: the same", was, p)
			}
			told[string(x)] = p
		}
	}
}

// P17.2: each K and each A that can be made, the greatest of both too.
func TestEachSet(t *testing.T) {
	p := place{7, 8}
	for k := 1; k <= 40; k++ {
		for a := 1; a <= 6; a++ {
			if a < 6 && k > 9 && k%13 > 1 {
				continue
			}
			f := api.Few{N: []int{16, 24, 32}[(k+a)%3], Layers: 1 + k%11, Height: a, K: k, A: a}
			m := rows.MaskedOf(f.N, 26)
			g, b := byOthers.grow(f, m, p), rows.Mixed(needed(f), byte(k))
			expect(t, p.whole(f, m), g.whole, "P17.2: Whole", f)
			expect(t, p.tell(f, m, b), g.tell(b), "P17.2: Tell", f)
			if got := len(p.tell(f, m, b)); got != toldLen(f) {
				t.Errorf("P17.2: Tell, %v: %v bytes, not %v", f, got, toldLen(f))
			}
			if got := len(p.whole(f, m)); got != f.N {
				t.Errorf("P17.2: Whole, %v: %v bytes", f, got)
			}
		}
	}
}

// P17.2: neither hangs on how many layers of trees stand above, nor on how high these are.
func TestLayersDontTell(t *testing.T) {
	p, m, b := place{7, 8}, rows.MaskedOf(16, 27), []byte{0xb0}
	g := byOthers.grow(base, m, p)
	for height := 1; height <= 6; height++ {
		for layers := 1; layers <= rows.MostLayers()[height-1]; layers++ {
			f := api.Few{N: 16, Layers: layers, Height: height, K: base.K, A: base.A}
			expect(t, p.whole(f, m), g.whole, "P17.2: Whole", f)
			expect(t, p.tell(f, m, b), g.tell(b), "P17.2: Tell", f)
		}
	}
}

// P17.2: each byte of the secret and of the seed tells in both; no byte of the salt does.
func TestSecretsTell(t *testing.T) {
	p, b := place{9, 10}, []byte{0x90}
	for _, n := range []int{16, 24, 32} {
		f, m := base, rows.MaskedOf(n, 28)
		f.N = n
		whole, told := p.whole(f, m), p.tell(f, m, b)
		for at := range n {
			for _, other := range []api.Masked{
				{Secret: rows.Turned(m.Secret, at), Salt: m.Salt, Seed: m.Seed},
				{Secret: m.Secret, Salt: m.Salt, Seed: rows.Turned(m.Seed, at)},
			} {
				g := byOthers.grow(f, other, p)
				expect(t, p.whole(f, other), g.whole, "P17.2: Whole, another byte", n, at)
				expect(t, p.tell(f, other, b), g.tell(b), "P17.2: Tell, another byte", n, at)
				unlike(t, p.whole(f, other), whole, "P17.2: Whole, another byte", n, at)
				unlike(t, p.tell(f, other, b), told, "P17.2: Tell, another byte", n, at)
			}
			salted := api.Masked{Secret: m.Secret, Salt: rows.Turned(m.Salt, at), Seed: m.Seed}
			expect(t, p.whole(f, salted), whole, "P17.2: Whole, another salt", n, at)
			expect(t, p.tell(f, salted, b), told, "P17.2: Tell, another salt", n, at)
		}
	}
}

// P17.2: of bytes with more behind them than are needed the same is told, and of such as differ behind the last digit.
func TestTellMore(t *testing.T) {
	p := place{11, 12}
	for _, f := range append(few(), greatest) {
		m, b := rows.MaskedOf(f.N, 29), rows.Mixed(needed(f), 30)
		told := p.tell(f, m, b)
		for _, more := range [][]byte{{0}, {255}, make([]byte, 32), rows.Mixed(99, 31), b, rows.Mixed(api.MaxText, 31)} {
			expect(t, p.tell(f, m, slices.Concat(b, more)), told, "P17.2: Tell, bytes behind", f, len(more))
		}
		for bit := f.K * f.A; bit < 8*len(b); bit++ {
			expect(t, p.tell(f, m, rows.TurnedBit(b, bit)), told, "P17.2: Tell, a bit behind the last digit", f, bit)
		}
		unlike(t, p.tell(f, m, slices.Concat([]byte{^b[0]}, b)), told, "P17.2: Tell, a byte ahead", f)
	}
}

// P17.2: of two unlike digits, all that is told of these is unlike, and all that is told of the others the same.
func TestTellDigits(t *testing.T) {
	p, f := place{13, 14}, api.Few{N: 16, Layers: 1, Height: 1, K: 5, A: 4}
	m, b := rows.MaskedOf(16, 32), rows.Mixed(3, 33)
	told := p.tell(f, m, b)
	for bit := range f.K * f.A {
		got := p.tell(f, m, rows.TurnedBit(b, bit))
		for k := range f.K {
			was, is := told[k*partLen(f):][:partLen(f)], got[k*partLen(f):][:partLen(f)]
			if k == bit/f.A {
				unlike(t, row(f, is, 0), row(f, was, 0), "P17.2: Tell, a bit of the digit turned", bit, k)
				continue
			}
			expect(t, is, was, "P17.2: Tell, a bit of another digit turned", bit, k)
		}
	}
}

// expectNone tells where something is made of a set and secrets.
func expectNone(t *testing.T, f api.Few, m api.Masked, what ...any) {
	t.Helper()
	for _, p := range []place{{}, {5, 6}} {
		nothing(t, p.whole(f, m), "P17.2: Whole", f, what)
		for _, b := range [][]byte{nil, {1}, rows.Mixed(70, 34)} {
			nothing(t, p.tell(f, m, b), "P17.2: Tell", f, len(b), what)
		}
	}
	if t.Failed() {
		// What is too high takes long to make: one such is enough.
		t.FailNow()
	}
}

// P17.2: nothing of sets that may not be, nor of such as may be, but can't be made.
func TestNoSets(t *testing.T) {
	for _, f := range append(rows.NoFews(), rows.HighFews()...) {
		for _, n := range []int{0, 16, 24, 32} {
			expectNone(t, f, rows.MaskedOf(n, 35), "secrets of", n)
		}
		if f.N > 0 && f.N < 1<<17 {
			expectNone(t, f, rows.MaskedOf(f.N, 35))
		}
	}
}

// P17.2: nothing of secrets that may not be.
func TestNoSecrets(t *testing.T) {
	for _, f := range []api.Few{base, {N: 24, Layers: 1, Height: 1, K: 1, A: 1}, greatest} {
		for _, m := range rows.NoMaskedsOf(f.N) {
			expectNone(t, f, m, len(m.Secret), len(m.Salt), len(m.Seed))
		}
	}
}

// P17.2: nothing told of too few bytes.
func TestTellTooFew(t *testing.T) {
	for _, f := range append(few(), greatest, api.Few{N: 16, Layers: 1, Height: 1, K: 9, A: 1}, api.Few{N: 16, Layers: 1, Height: 1, K: 8, A: 1}) {
		m := rows.MaskedOf(f.N, 36)
		for _, b := range tooFew(f) {
			nothing(t, place{15, 16}.tell(f, m, b), "P17.2: Tell, too few bytes", f, len(b))
		}
		b := rows.Mixed(needed(f), 37)
		expect(t, place{15, 16}.tell(f, m, b), byLayer.grow(f, m, place{15, 16}).tell(b), "P17.2: Tell, just enough bytes", f)
	}
}

// unhex: the bytes that letters tell.
func unhex(text string) []byte {
	b, err := hex.DecodeString(text)
	if err != nil {
		panic(err)
	}
	return b
}

// P17.2: what is told in a published signature: NIST's ACVP vectors for SLH-DSA, sigGen of FIPS 205 (vsId 53), SLH-DSA-SHAKE-128f, group 16, test 136.
func TestPublished(t *testing.T) {
	f := api.Few{N: 16, Layers: 22, Height: 3, K: 33, A: 6}
	key := unhex("6a404530ea7fd978496fb4a03a82dcd168c7b3b972b392d3bee085435358f6983e41f070aec01075cf1d045b3de396810561979ab01a5669c06e977a51827f52")
	m, public, text := api.Masked{Secret: key[:16], Salt: key[16:32], Seed: key[32:48]}, key[32:], []byte{0x25}
	salt := unhex("4a946b5973a6541f9732d790a1705adf")
	digest := sha3.SumSHAKE256(slices.Concat(salt, public, text), 34)
	b, p := digest[:25], place{}
	for _, c := range digest[25:33] {
		p.tree = p.tree<<8 | uint64(c)
	}
	p.tree, p.q = p.tree%(1<<63), uint32(digest[33]%8)
	told := p.tell(f, m, b)
	if len(told) != 33*7*16 {
		t.Fatalf("P17.2: Tell: %v bytes", len(told))
	}
	expect(t, told[:32], unhex("3c03ab0045c11b12ae44aeb81fe68378c3f06ab95fc2c18666cf8c96b65028a0"), "P17.2: Tell, the first rows of the published ones")
	sum := sha256.Sum256(told)
	expect(t, sum[:], unhex("09cc1feed9caf9a23282b4bda5c3da1ecd3c18b236f65ed30acc4b7cd4f29e64"), "P17.2: Tell, the sum of the published bytes")
	expect(t, p.stands(f, m.Seed, b, told), p.whole(f, m), "P17.4: Stands, of the published bytes")
	if bytes.Equal(fors.Whole(f, m, p.tree, p.q^1), p.whole(f, m)) {
		t.Error("P17.2: Whole, at another number: the same")
	}
}
