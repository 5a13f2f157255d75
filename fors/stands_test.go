package fors_test

import (
	"bytes"
	"math"
	"slices"
	"testing"

	"tearoff/adrs"
	"tearoff/api"
	"tearoff/fors"
	"tearoff/rows"
)

// P17.4: what is told stands for the whole, of many sets, secrets, places and bytes.
func TestStandsForWhole(t *testing.T) {
	for _, f := range append(few(), greatest, api.Few{N: 16, Layers: 22, Height: 3, K: 33, A: 6}, api.Few{N: 24, Layers: 1, Height: 1, K: 40, A: 1}) {
		for i, m := range rows.MaskedsOf(f.N) {
			for _, p := range []place{{}, {5, 6}, {math.MaxUint64, math.MaxUint32}} {
				if f.A == 6 && i > 0 && p.q > 0 {
					continue
				}
				whole := p.whole(f, m)
				for _, b := range enough(f, 41) {
					expect(t, p.stands(f, m.Seed, b, p.tell(f, m, b)), whole, "P17.4: Stands", f, p, b)
				}
			}
		}
	}
}

// P17.4: the same of all digits of a set, and at all places; it stands for the whole of no other place, nor other digits.
func TestStandsForAll(t *testing.T) {
	m := rows.MaskedOf(16, 42)
	p := place{5, 6}
	whole := p.whole(base, m)
	for c := range 256 {
		b := []byte{byte(c)}
		told := p.tell(base, m, b)
		expect(t, p.stands(base, m.Seed, b, told), whole, "P17.4: Stands", c)
		for d := range 256 {
			got := p.stands(base, m.Seed, []byte{byte(d)}, told)
			if same := c>>4 == d>>4; bytes.Equal(got, whole) != same || len(got) != 16 {
				t.Errorf("P17.3: Stands, told of %v, of %v: %x", c, d, got)
			}
		}
	}
	for _, p := range places() {
		told := p.tell(base, m, []byte{0x70})
		expect(t, p.stands(base, m.Seed, []byte{0x70}, told), p.whole(base, m), "P17.4: Stands", p)
		for _, other := range []place{{p.tree ^ 1, p.q}, {p.tree ^ 1<<31, p.q}, {p.tree ^ 1<<32, p.q}, {p.tree ^ 1<<63, p.q}, {p.tree, p.q ^ 1}, {p.tree, p.q ^ 1<<31}, {uint64(p.q), uint32(p.tree)}} {
			if other == p {
				continue
			}
			got := other.stands(base, m.Seed, []byte{0x70}, told)
			unlike(t, got, p.whole(base, m), "P17.3: Stands, at another place", p, other)
			unlike(t, got, other.whole(base, m), "P17.3: Stands, at another place", p, other)
			expect(t, got, byOthers.stands(base, m.Seed, other, []byte{0x70}, told), "P17.3: Stands, at another place", p, other)
		}
	}
}

// P17.3: of the sets K 1, A 1 and K 1, A 2, address by address, of any rows.
func TestStandsWrittenOut(t *testing.T) {
	p, seed := place{5, 6}, rows.Mixed(24, 43)
	sum := func(b, c uint32, list ...[]byte) []byte {
		return adrs.Tweak(24, seed, api.Adrs{Tree: 5, Kind: 3, A: 6, B: b, C: c}, slices.Concat(list...))
	}
	whole := func(list ...[]byte) []byte {
		return adrs.Tweak(24, seed, api.Adrs{Tree: 5, Kind: 4, A: 6}, slices.Concat(list...))
	}
	x, y, z := rows.Mixed(24, 44), rows.Mixed(24, 45), rows.Mixed(24, 46)
	one := api.Few{N: 24, Layers: 1, Height: 1, K: 1, A: 1}
	for d, want := range [][]byte{sum(1, 0, sum(0, 0, x), y), sum(1, 0, y, sum(0, 1, x))} {
		expect(t, p.stands(one, seed, []byte{byte(d) << 7}, slices.Concat(x, y)), whole(want), "P17.3: Stands, A 1", d)
	}
	two := api.Few{N: 24, Layers: 1, Height: 1, K: 1, A: 2}
	for d, want := range [][]byte{
		sum(2, 0, sum(1, 0, sum(0, 0, x), y), z), sum(2, 0, sum(1, 0, y, sum(0, 1, x)), z),
		sum(2, 0, z, sum(1, 1, sum(0, 2, x), y)), sum(2, 0, z, sum(1, 1, y, sum(0, 3, x))),
	} {
		expect(t, p.stands(two, seed, []byte{byte(d) << 6}, slices.Concat(x, y, z)), whole(want), "P17.3: Stands, A 2", d)
	}
	both := api.Few{N: 24, Layers: 1, Height: 1, K: 2, A: 1}
	for d, want := range [][][]byte{
		{sum(1, 0, sum(0, 0, x), y), sum(1, 1, sum(0, 2, z), x)}, {sum(1, 0, sum(0, 0, x), y), sum(1, 1, x, sum(0, 3, z))},
		{sum(1, 0, y, sum(0, 1, x)), sum(1, 1, sum(0, 2, z), x)}, {sum(1, 0, y, sum(0, 1, x)), sum(1, 1, x, sum(0, 3, z))},
	} {
		expect(t, p.stands(both, seed, []byte{byte(d) << 6}, slices.Concat(x, y, z, x)), whole(want...), "P17.3: Stands, K 2", d)
	}
}

// P17.3: any rows, of each K and A that may be, those that can't be made too, put together.
func TestStandsOfEachSet(t *testing.T) {
	p := place{1<<40 + 3, 1<<20 + 4}
	for k := 1; k <= 40; k++ {
		for a := 1; a <= 14; a++ {
			height := 1 + (k+a)%9
			f := api.Few{N: []int{16, 24, 32}[(k+a)%3], Layers: 1 + k%rows.MostLayers()[height-1], Height: height, K: k, A: a}
			seed, told := rows.Mixed(f.N, 47), rows.Mixed(toldLen(f), byte(a))
			for _, b := range enough(f, byte(k)) {
				expect(t, p.stands(f, seed, b, told), byOthers.stands(f, seed, p, b, told), "P17.3: Stands", f, b)
			}
		}
	}
}

// P17.3: noughts and ones, of sets that may be, but can't be made.
func TestStandsTooHigh(t *testing.T) {
	for _, f := range rows.HighFews() {
		for _, m := range rows.MaskedsOf(f.N) {
			for _, told := range [][]byte{make([]byte, toldLen(f)), bytes.Repeat([]byte{255}, toldLen(f))} {
				b := rows.Mixed(needed(f), 48)
				for _, means := range allMeans {
					expect(t, place{5, 6}.stands(f, m.Seed, b, told), means.stands(f, m.Seed, place{5, 6}, b, told), "P17.3: Stands", f)
				}
			}
		}
	}
}

// P17.3: whole trees of the heights 7 to 14, put together: what is told there stands for the whole, though it can't be made. (With -short: up to 10.)
func TestHighTrees(t *testing.T) {
	p := place{77, 78}
	for a := 7; a <= 14; a++ {
		if a > 10 && testing.Short() {
			break
		}
		f := api.Few{N: 16, Layers: 2, Height: 9, K: 2, A: a}
		m := rows.MaskedOf(16, 49)
		g := byOthers.grow(f, m, p)
		for _, b := range enough(f, 50) {
			told := g.tell(b)
			expect(t, p.stands(f, m.Seed, b, told), g.whole, "P17.3: Stands", f, b)
			unlike(t, p.stands(f, m.Seed, b, rows.Turned(told, len(told)-1)), g.whole, "P17.3: Stands, the last byte turned", f)
			unlike(t, p.stands(f, m.Seed, rows.Turned(b, 0), told), g.whole, "P17.3: Stands, another byte", f)
			nothing(t, p.tell(f, m, b), "P17.2: Tell, of the same", f)
		}
		nothing(t, p.whole(f, m), "P17.2: Whole, of the same", f)
	}
}

// P17.3: a bit turned, in each part of what is told; it stands for another whole: that of these bytes.
func TestTurned(t *testing.T) {
	p := place{5, 6}
	for _, f := range append(few(), api.Few{N: 32, Layers: 8, Height: 9, K: 40, A: 14}) {
		seed, b, told := rows.Mixed(f.N, 51), rows.Mixed(needed(f), 52), rows.Mixed(toldLen(f), 53)
		whole := p.stands(f, seed, b, told)
		for i := range toldLen(f) / f.N {
			other := rows.TurnedBit(told, 8*f.N*i+7*i%(8*f.N))
			got := p.stands(f, seed, b, other)
			unlike(t, got, whole, "P17.3: Stands, a bit of a part turned", f, i)
			if f.A < 14 {
				expect(t, got, byOthers.stands(f, seed, p, b, other), "P17.3: Stands, a bit of a part turned", f, i)
			}
		}
	}
}

// P17.3: each bit of what is told, of the seed, the tree, the number and the digits tells, and none of the bytes behind these.
func TestTurnedBits(t *testing.T) {
	p, f := place{5, 6}, api.Few{N: 16, Layers: 1, Height: 1, K: 3, A: 3}
	m, b := rows.MaskedOf(16, 54), []byte{0x5a, 0xa5}
	whole, told := p.whole(f, m), p.tell(f, m, b)
	for bit := range 8 * len(told) {
		unlike(t, p.stands(f, m.Seed, b, rows.TurnedBit(told, bit)), whole, "P17.3: Stands, a bit turned", bit)
	}
	for bit := range 8 * 16 {
		unlike(t, p.stands(f, rows.TurnedBit(m.Seed, bit), b, told), whole, "P17.3: Stands, a bit of the seed turned", bit)
	}
	for bit := range 64 {
		unlike(t, place{p.tree ^ 1<<bit, p.q}.stands(f, m.Seed, b, told), whole, "P17.3: Stands, a bit of the tree turned", bit)
	}
	for bit := range 32 {
		unlike(t, place{p.tree, p.q ^ 1<<bit}.stands(f, m.Seed, b, told), whole, "P17.3: Stands, a bit of the number turned", bit)
	}
	for bit := range 16 {
		got := p.stands(f, m.Seed, rows.TurnedBit(b, bit), told)
		if bit < 9 {
			unlike(t, got, whole, "P17.3: Stands, a bit of the digits turned", bit)
			continue
		}
		expect(t, got, whole, "P17.3: Stands, a bit behind the digits turned", bit)
	}
}

// P17.3: parts of what is told that change their places.
func TestMoved(t *testing.T) {
	p, f := place{5, 6}, api.Few{N: 16, Layers: 1, Height: 1, K: 2, A: 3}
	m, b := rows.MaskedOf(16, 55), []byte{0xb4}
	whole, told := p.whole(f, m), p.tell(f, m, b)
	for i := range 8 {
		for j := range i {
			moved := bytes.Clone(told)
			copy(row(f, moved, i), row(f, told, j))
			copy(row(f, moved, j), row(f, told, i))
			got := p.stands(f, m.Seed, b, moved)
			unlike(t, got, whole, "P17.3: Stands, parts exchanged", i, j)
			expect(t, got, byOthers.stands(f, m.Seed, p, b, moved), "P17.3: Stands, parts exchanged", i, j)
		}
	}
	halves := append(bytes.Clone(told[partLen(f):]), told[:partLen(f)]...)
	unlike(t, p.stands(f, m.Seed, b, halves), whole, "P17.3: Stands, the parts of two digits exchanged")
}

// P17.3: nothing of what hasn't K(A + 1)N bytes: each length up to that, and longer.
func TestToldLengths(t *testing.T) {
	p := place{5, 6}
	for _, f := range []api.Few{base, {N: 24, Layers: 1, Height: 1, K: 1, A: 1}, {N: 32, Layers: 1, Height: 9, K: 3, A: 14}} {
		seed, b, told := rows.Mixed(f.N, 56), rows.Mixed(needed(f), 57), rows.Mixed(toldLen(f), 58)
		for n := range told {
			nothing(t, p.stands(f, seed, b, told[:n]), "P17.3: Stands, bytes told, spare room behind", f, n)
			nothing(t, p.stands(f, seed, b, bytes.Clone(told[:n])), "P17.3: Stands, bytes told", f, n)
			nothing(t, p.stands(f, seed, b, told[n+1:]), "P17.3: Stands, bytes told, at the end", f, n)
		}
		for _, more := range [][]byte{{0}, {255}, make([]byte, f.N), rows.Mixed(partLen(f), 59), told, rows.Mixed(256, 59), rows.Mixed(1<<16, 59)} {
			nothing(t, p.stands(f, seed, b, slices.Concat(told, more)), "P17.3: Stands, more told", f, len(more))
		}
		nothing(t, p.stands(f, seed, b, nil), "P17.3: Stands, nothing told", f)
		expect(t, p.stands(f, seed, b, told), byLayer.stands(f, seed, p, b, told), "P17.3: Stands, just enough told", f)
	}
}

// P17.3: nothing of a seed that hasn't N bytes, and of too few bytes.
func TestStandsLengths(t *testing.T) {
	p := place{5, 6}
	for _, f := range append(few(), greatest, api.Few{N: 24, Layers: 1, Height: 9, K: 40, A: 14}, api.Few{N: 16, Layers: 1, Height: 1, K: 8, A: 1}, api.Few{N: 16, Layers: 1, Height: 1, K: 9, A: 1}) {
		seed, b, told := rows.Mixed(f.N, 60), rows.Mixed(needed(f), 61), rows.Mixed(toldLen(f), 62)
		for _, bad := range rows.Wrong(f.N) {
			nothing(t, p.stands(f, bad, b, told), "P17.3: Stands, bytes of the seed", f, len(bad))
		}
		for _, bad := range tooFew(f) {
			nothing(t, p.stands(f, seed, bad, told), "P17.3: Stands, too few bytes", f, len(bad))
			nothing(t, p.stands(f, seed[1:], bad, told), "P17.3: Stands, too few bytes, a short seed", f, len(bad))
			nothing(t, p.stands(f, seed, bad, told[1:]), "P17.3: Stands, too few bytes, too few told", f, len(bad))
		}
		expect(t, p.stands(f, seed, b, told), byLayer.stands(f, seed, p, b, told), "P17.3: Stands", f)
	}
}

// P17.3: bytes with more behind them than are needed stand for the same.
func TestStandsMore(t *testing.T) {
	p := place{5, 6}
	for _, f := range append(few(), greatest, api.Few{N: 24, Layers: 1, Height: 9, K: 39, A: 13}) {
		seed, b, told := rows.Mixed(f.N, 63), rows.Mixed(needed(f), 64), rows.Mixed(toldLen(f), 65)
		whole := p.stands(f, seed, b, told)
		expect(t, whole, byLayer.stands(f, seed, p, b, told), "P17.3: Stands", f)
		for _, more := range [][]byte{{0}, {255}, make([]byte, 32), b, rows.Mixed(api.MaxText, 66)} {
			expect(t, p.stands(f, seed, slices.Concat(b, more), told), whole, "P17.3: Stands, bytes behind", f, len(more))
		}
		for bit := f.K * f.A; bit < 8*len(b); bit++ {
			expect(t, p.stands(f, seed, rows.TurnedBit(b, bit), told), whole, "P17.3: Stands, a bit behind the last digit", f, bit)
		}
	}
}

// P17.3: nothing of a set that may not be, even of rows that would be those of it.
func TestStandsNoSets(t *testing.T) {
	for _, f := range rows.NoFews() {
		for _, n := range []int{0, 16, 24, 32} {
			nothing(t, fors.Stands(f, rows.Mixed(n, 67), 5, 6, rows.Mixed(70, 68), nil), "P17.3: Stands", f, n)
			nothing(t, fors.Stands(f, rows.Mixed(n, 67), 5, 6, nil, nil), "P17.3: Stands", f, n)
			nothing(t, fors.Stands(f, rows.Mixed(n, 67), 5, 6, rows.Mixed(70, 68), rows.Mixed(6*n, 69)), "P17.3: Stands", f, n)
		}
		if f.N >= 0 && f.N <= 1<<10 && f.K >= 0 && f.K <= 100 && f.A >= 0 && f.A <= 100 {
			seed, b, told := rows.Mixed(f.N, 67), rows.Mixed(needed(f)+1, 68), rows.Mixed(toldLen(f), 69)
			nothing(t, fors.Stands(f, seed, 5, 6, b, told), "P17.3: Stands, rows of its lengths", f)
		}
	}
}

// P17.3: of another set what is told stands for nothing, or for another whole.
func TestOtherSet(t *testing.T) {
	p := place{5, 6}
	for _, f := range few() {
		m, b := rows.MaskedOf(f.N, 70), rows.Mixed(needed(f)+20, 71)
		told, whole := p.tell(f, m, b), p.whole(f, m)
		for _, x := range few() {
			got := p.stands(x, m.Seed, b, told)
			switch {
			case x == f:
				expect(t, got, whole, "P17.4: Stands", f)
			case x.N != f.N || toldLen(x) != toldLen(f):
				nothing(t, got, "P17.3: Stands, of another set", f, x)
			default:
				unlike(t, got, whole, "P17.3: Stands, of another set", f, x)
			}
		}
	}
}
