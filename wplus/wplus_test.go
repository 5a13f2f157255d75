package wplus_test

import (
	"bytes"
	"math"
	"slices"
	"testing"

	"tearoff/adrs"
	"tearoff/api"
	"tearoff/rows"
	"tearoff/wplus"
)

// P15.1: the chapter's example: a signature has 2144 bytes.
func TestExample(t *testing.T) {
	for _, sum := range sums() {
		if got := len(wplus.Sign(rows.Masked(1), 1, 2, 3, sum)); got != 2144 {
			t.Errorf("P15.1: a signature of %x: %v bytes, not 2144", sum, got)
		}
	}
}

// P15.1: May, of secrets that may be, and of such as may not, by one of the three alone or by all: nothing comes of those.
func TestMay(t *testing.T) {
	for _, m := range rows.Maskeds() {
		if !wplus.May(m) {
			t.Errorf("P15.1: not May(%x)", m)
		}
	}
	for _, m := range rows.NoMaskeds() {
		expectNone(t, m)
	}
}

// expectNone tells where secrets may be that may not, or where something comes of them.
func expectNone(t *testing.T, m api.Masked) {
	t.Helper()
	what := []int{len(m.Secret), len(m.Salt), len(m.Seed)}
	if wplus.May(m) {
		t.Errorf("P15.1: May: %v bytes", what)
	}
	for _, p := range []place{{}, {1, 2, 3}} {
		nothing(t, p.leaf(m), "P15.1: Leaf, bytes of secrets", what)
		for _, sum := range [][]byte{make([]byte, rowLen), all015(), nil, make([]byte, 31)} {
			nothing(t, p.sign(m, sum), "P15.1: Sign, bytes of secrets", what)
		}
	}
}

// P15.1: May, of every length of each of the three.
func TestMayLengths(t *testing.T) {
	for n := range 100 {
		for what, m := range rows.WithRow(rows.Masked(13), rows.Mixed(n, 14)) {
			if got := wplus.May(m); got != (n == 32) {
				t.Errorf("P15.1: May: %v, %v bytes: %v", what, n, got)
			}
		}
	}
}

// P15.1: Sign, of a sum that hasn't 32 bytes.
func TestSignRefused(t *testing.T) {
	for _, m := range rows.Maskeds() {
		for _, b := range rows.Wrong(rowLen) {
			for _, p := range []place{{}, {1, 2, 3}} {
				nothing(t, p.sign(m, b), "P15.1: Sign, bytes of the sum", len(b))
			}
		}
	}
	for n := range 100 {
		want := 0
		if n == 32 {
			want = sigLen
		}
		if got := len(wplus.Sign(rows.Masked(15), 1, 2, 3, rows.Mixed(n, 16))); got != want {
			t.Errorf("P15.1: Sign of %v bytes: %v bytes, not %v", n, got, want)
		}
	}
}

// P15.1: the secrets of chains 0, 1 and 66, put together from layer 14's calls alone: a signature of bytes 0 has them as they are.
func TestSecrets(t *testing.T) {
	for _, m := range rows.Maskeds() {
		for _, p := range places() {
			sig := p.sign(m, make([]byte, rowLen))
			key := adrs.Prf(m.Secret, adrs.Bytes(api.Adrs{Layer: p.layer, Tree: p.tree, A: p.q}, 0))
			for _, i := range []byte{0, 1, 63, 66} {
				want := adrs.Prf(key, append(make([]byte, 31), i))
				expect(t, part(sig, int(i)), want, "P15.1: the secret of a chain", i, p)
			}
		}
	}
}

// reached: a sum whose digits are d in the chains 0, 1 and 63, and one whose digit in the chain 66 is d: of 63 digits 0 and an x at last they lack 960 - x, which modulo 16 is d, if x is 16 - d (of 0: 0).
func reached(d int) (sum, last []byte) {
	sum, last = make([]byte, rowLen), make([]byte, rowLen)
	sum[0], sum[31] = byte(d<<4|d), byte(d)
	last[31] = byte((16 - d) % 16)
	return sum, last
}

// P15.1: chains 0, 1 and 66, gone up by all steps, from 0 to 15: each step by a call of layer 14, one on the other.
func TestGoneUp(t *testing.T) {
	for _, m := range rows.Maskeds() {
		for _, p := range few() {
			key := adrs.Prf(m.Secret, adrs.Bytes(api.Adrs{Layer: p.layer, Tree: p.tree, A: p.q}, 0))
			for _, i := range []int{0, 1, 63, 66} {
				x := adrs.Prf(key, row(i))
				for d := range 16 {
					sum, last := reached(d)
					if i == 66 {
						sum = last
					}
					expect(t, part(p.sign(m, sum), i), x, "P15.1: a chain, gone up", i, d, p)
					x = adrs.F(m.Seed, api.Adrs{Layer: p.layer, Tree: p.tree, A: p.q, B: uint32(i), C: uint32(d)}, x)
				}
			}
		}
	}
}

// P15.1: the ends, those of chains 0, 1 and 66 among them, are what the leaf is of: with one bit of any of them turned it is another one.
func TestEnds(t *testing.T) {
	m, p := rows.Masked(21), place{1, 2, 3}
	ends := byLayers.ends(p, m)
	leaf := p.leaf(m)
	expect(t, leaf, byLayers.sumOf(p, m.Seed, ends), "P15.1: Leaf, of the ends")
	for i := range ends {
		others := slices.Clone(ends)
		others[i] = rows.Turned(ends[i], i%rowLen)
		another(t, byLayers.sumOf(p, m.Seed, others), leaf, "P15.1: Leaf, of other ends", i)
	}
	// Of a sum that lacks nothing a signature's parts are the ends, but for the last three; of one that lacks 255 those of the chains 65 and 66 are.
	ones, lacks := bytes.Repeat([]byte{255}, rowLen), append(make([]byte, 9), bytes.Repeat([]byte{255}, 23)...)
	lacks[8] = 0x0f
	sig := p.sign(m, ones)
	for i := range 64 {
		expect(t, part(sig, i), ends[i], "P15.1: an end", i)
	}
	sig = p.sign(m, lacks)
	for _, i := range []int{17, 63, 65, 66} {
		expect(t, part(sig, i), ends[i], "P15.1: an end", i)
	}
}

// P15.1: a leaf's rows of 67, 34, 17, 9, 5, 3, 2 and 1, worked out one by one, each sum by a call of layer 14: the last one of an odd row stays.
func TestRows(t *testing.T) {
	for _, m := range rows.Maskeds() {
		for _, p := range few() {
			list := byLayers.ends(p, m)
			for g, n := range counts {
				if len(list) != n {
					t.Fatalf("P15.1: the row %v: %v, not %v", g, len(list), n)
				}
				if n == 1 {
					break
				}
				var above [][]byte
				for i := range n / 2 {
					above = append(above, adrs.H(m.Seed, api.Adrs{Layer: p.layer, Tree: p.tree, Kind: 1, A: p.q, B: uint32(g), C: uint32(i)}, list[2*i], list[2*i+1]))
				}
				if n%2 == 1 {
					above = append(above, list[n-1])
				}
				list = above
			}
			expect(t, p.leaf(m), list[0], "P15.1: Leaf, row by row", p)
		}
	}
}

// P15.1: the ways of the first end, and of the last, which stays in most rows, written out.
func TestRowsWrittenOut(t *testing.T) {
	m, p := rows.Masked(22), place{4, 5, 6}
	ends := byOthers.ends(p, m)
	stood := func(g, i int) []byte { return byOthers.stood(p, m.Seed, ends, g, i) }
	h := func(g, i uint32, left, right []byte) []byte { return adrs.H(m.Seed, p.at(rowKind, g, i), left, right) }
	first := ends[0]
	for g, other := range [][]byte{ends[1], stood(1, 1), stood(2, 1), stood(3, 1), stood(4, 1), stood(5, 1)} {
		first = h(uint32(g), 0, first, other)
	}
	// The end 66 is the last of 67, then the right one of the last two of 34, and the last of 17, 9, 5 and 3.
	last := h(1, 16, h(0, 32, ends[64], ends[65]), ends[66])
	expect(t, p.leaf(m), h(6, 0, first, last), "P15.1: Leaf, of its first end and its last")
}

// P15.1: signatures, part by part, of many sums, secrets and places: each chain gone up by its digit.
func TestSign(t *testing.T) {
	for _, means := range allMeans {
		for _, sum := range sums() {
			expectSigned(t, means, place{1, 2, 3}, rows.Masked(23), sum)
		}
		for _, m := range rows.Maskeds() {
			for _, p := range places() {
				expectSigned(t, means, p, m, all015())
			}
		}
	}
}

// expectSigned tells where a signature isn't what it must be.
func expectSigned(t *testing.T, means means, p place, m api.Masked, sum []byte) {
	t.Helper()
	sig := p.sign(m, sum)
	if len(sig) != sigLen {
		t.Fatalf("P15.1: Sign of %x: %v bytes, not %v", sum, len(sig), sigLen)
	}
	all := means.digits(sum)
	if len(all) != chainCount {
		t.Fatalf("%v digits of %x", len(all), sum)
	}
	for i, d := range all {
		expect(t, part(sig, i), means.risen(p, m, i, d), "P15.1: Sign, a chain gone up", i, d, p)
	}
	expect(t, sig, means.sign(p, m, sum), "P15.1: Sign", p)
}

// P15.1: all digits of some sums, written out, by which their signatures are.
func TestSignWrittenOut(t *testing.T) {
	var each []int
	for d := range 64 {
		each = append(each, d%16)
	}
	m, p := rows.Masked(24), place{7, 8, 9}
	for _, c := range []struct {
		sum  []byte
		want []int
	}{
		{make([]byte, rowLen), append(make([]int, 64), 3, 12, 0)},
		{bytes.Repeat([]byte{255}, rowLen), append(slices.Repeat([]int{15}, 64), 0, 0, 0)},
		{bytes.Repeat([]byte{0x1e}, rowLen), append(slices.Repeat([]int{1, 14}, 32), 1, 14, 0)},
		{all015(), append(each, 1, 14, 0)},
		{rows.TurnedBit(make([]byte, rowLen), 255), append(make([]int, 63), 1, 3, 11, 15)},
		{rows.TurnedBit(make([]byte, rowLen), 0), append(append([]int{8}, make([]int, 63)...), 3, 11, 8)},
	} {
		sig := p.sign(m, c.sum)
		for i, d := range c.want {
			expect(t, part(sig, i), byOthers.risen(p, m, i, d), "P15.1: Sign", c.sum, i, d)
		}
	}
}

// P15.1: of two sums that differ in one bit some chain of each goes higher than that of the other, so that neither signature tells the other.
func TestSignApart(t *testing.T) {
	m, p := rows.Masked(25), place{1, 2, 3}
	for _, ground := range [][]byte{make([]byte, rowLen), all015(), rows.Mixed(rowLen, 26)} {
		was := p.sign(m, ground)
		for bit := 0; bit < 256; bit += 5 {
			sum := rows.TurnedBit(ground, bit)
			sig := p.sign(m, sum)
			expect(t, sig, byOthers.sign(p, m, sum), "P15.1: Sign, another bit", bit)
			a, b := byOthers.digits(ground), byOthers.digits(sum)
			less, more := false, false
			for i := range a {
				less, more = less || a[i] < b[i], more || a[i] > b[i]
				if same := bytes.Equal(part(was, i), part(sig, i)); same != (a[i] == b[i]) {
					t.Errorf("P15.1: Sign, the bit %v turned, chain %v of digits %v and %v: the same: %v", bit, i, a[i], b[i], same)
				}
			}
			if !less || !more {
				t.Errorf("P15.1: Sign, the bit %v turned: some chain higher: %v, some lower: %v", bit, less, more)
			}
		}
	}
}

// P15.1: leaves of many secrets and places, put together.
func TestLeaf(t *testing.T) {
	for _, means := range allMeans {
		for _, m := range rows.Maskeds() {
			for _, p := range places() {
				expect(t, p.leaf(m), means.leaf(p, m), "P15.1: Leaf", p)
			}
		}
	}
}

// apart: places that differ from one in the layer alone, in the tree alone, or in q alone: at 0, at 1, at the greatest, near them, and by each bit.
func apart(ground place) []place {
	out := []place{ground}
	for _, v := range []uint32{0, 1, 2, math.MaxUint32 - 1, math.MaxUint32} {
		out = append(out, place{v, ground.tree, ground.q}, place{ground.layer, ground.tree, v})
	}
	for _, v := range []uint64{0, 1, 2, math.MaxUint32, 1 << 32, 1<<32 + 1, 1 << 63, math.MaxUint64 - 1, math.MaxUint64} {
		out = append(out, place{ground.layer, v, ground.q})
	}
	for i := range 32 {
		out = append(out, place{ground.layer ^ 1<<i, ground.tree, ground.q}, place{ground.layer, ground.tree, ground.q ^ 1<<i})
	}
	for i := range 64 {
		out = append(out, place{ground.layer, ground.tree ^ 1<<i, ground.q})
	}
	return out
}

// P15.1: leaves whose places differ in one number alone are unlike, and so are their signatures.
func TestLeafPlaces(t *testing.T) {
	m, sum := rows.Masked(27), all015()
	grounds := []place{few()[0], few()[2]}
	if testing.Short() {
		grounds = grounds[:1]
	}
	leaves, sigs := map[string]place{}, map[string]place{}
	for _, ground := range grounds {
		for _, p := range apart(ground) {
			leaf, sig := p.leaf(m), p.sign(m, sum)
			expect(t, leaf, byOthers.leaf(p, m), "P15.1: Leaf", p)
			expect(t, sig, byOthers.sign(p, m, sum), "P15.1: Sign", p)
			if other, ok := leaves[string(leaf)]; ok && other != p {
				t.Errorf("P15.1: the leaves of %v and %v: %x", p, other, leaf)
			}
			if other, ok := sigs[string(sig)]; ok && other != p {
				t.Errorf("P15.1: the signatures of %v and %v are alike", p, other)
			}
			leaves[string(leaf)], sigs[string(sig)] = p, p
		}
	}
}

// P15.1: numbers that change their places tell.
func TestLeafExchanged(t *testing.T) {
	m, leaves := rows.Masked(28), map[string]place{}
	for _, p := range []place{{1, 2, 3}, {1, 3, 2}, {2, 1, 3}, {2, 3, 1}, {3, 1, 2}, {3, 2, 1}, {0, 1, 0}, {1, 0, 0}, {0, 0, 1}, {0, 1 << 32, 0}} {
		leaf := p.leaf(m)
		if other, ok := leaves[string(leaf)]; ok {
			t.Errorf("P15.1: the leaves of %v and %v: %x", p, other, leaf)
		}
		leaves[string(leaf)] = p
	}
}

// P15.1: each byte of the secret and of the seed tells in a leaf and in a signature, no byte of the salt does.
func TestSecretsTell(t *testing.T) {
	m, p, sum := rows.Masked(29), place{1, 2, 3}, all015()
	leaf, sig := p.leaf(m), p.sign(m, sum)
	for at := range rowLen {
		for _, x := range []api.Masked{
			{Secret: rows.Turned(m.Secret, at), Salt: m.Salt, Seed: m.Seed},
			{Secret: m.Secret, Salt: m.Salt, Seed: rows.Turned(m.Seed, at)},
		} {
			another(t, p.leaf(x), leaf, "P15.1: Leaf, another byte", at)
			expect(t, p.leaf(x), byOthers.leaf(p, x), "P15.1: Leaf, another byte", at)
			if got := p.sign(x, sum); bytes.Equal(got, sig) {
				t.Errorf("P15.1: Sign, another byte %v: the same", at)
			}
			expect(t, p.sign(x, sum), byOthers.sign(p, x, sum), "P15.1: Sign, another byte", at)
		}
		x := api.Masked{Secret: m.Secret, Salt: rows.Turned(m.Salt, at), Seed: m.Seed}
		expect(t, p.leaf(x), leaf, "P15.1: Leaf, another salt", at)
		expect(t, p.sign(x, sum), sig, "P15.1: Sign, another salt", at)
	}
	exchanged := api.Masked{Secret: m.Seed, Salt: m.Salt, Seed: m.Secret}
	another(t, p.leaf(exchanged), leaf, "P15.1: Leaf, secret and seed exchanged")
	expect(t, p.leaf(exchanged), byOthers.leaf(p, exchanged), "P15.1: Leaf, secret and seed exchanged")
}
