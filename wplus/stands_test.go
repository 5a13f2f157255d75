package wplus_test

import (
	"bytes"
	"testing"

	"tearoff/adrs"
	"tearoff/api"
	"tearoff/rows"
	"tearoff/wplus"
)

// P15.3: a signature stands for its leaf, of many sums, secrets and places.
func TestStandsForLeaf(t *testing.T) {
	m, p := rows.Masked(41), place{1, 2, 3}
	leaf := p.leaf(m)
	for _, sum := range sums() {
		expect(t, p.stands(m.Seed, sum, p.sign(m, sum)), leaf, "P15.3: Stands, of a sum", sum)
	}
	for _, m := range rows.Maskeds() {
		for _, p := range places() {
			for _, sum := range [][]byte{bytes.Repeat([]byte{255}, rowLen), rows.Mixed(rowLen, 42)} {
				expect(t, p.stands(m.Seed, sum, p.sign(m, sum)), p.leaf(m), "P15.3: Stands, at a place", p, sum)
			}
		}
	}
}

// P15.2: what any bytes stand for, signatures or not, put together: of many sums, seeds and places.
func TestStands(t *testing.T) {
	for _, means := range allMeans {
		for i, sum := range sums() {
			p, seed, sig := place{1, 2, 3}, rows.Mixed(rowLen, 43), rows.Mixed(sigLen, byte(i))
			expect(t, p.stands(seed, sum, sig), means.stands(p, seed, sum, sig), "P15.2: Stands, of a sum", sum)
		}
		for _, m := range rows.Maskeds() {
			for _, p := range places() {
				for _, sig := range [][]byte{make([]byte, sigLen), bytes.Repeat([]byte{255}, sigLen), rows.Mixed(sigLen, 44)} {
					expect(t, p.stands(m.Seed, all015(), sig), means.stands(p, m.Seed, all015(), sig), "P15.2: Stands, at a place", p)
				}
			}
		}
	}
}

// P15.2: each chain is gone up from its digit, by the steps that are left, each a call of layer 14: chains 0, 1 and 66, from 0 to 15.
func TestStandsFrom(t *testing.T) {
	p, seed, sig := place{1, 2, 3}, rows.Mixed(rowLen, 45), rows.Mixed(sigLen, 46)
	for d := range 16 {
		sum, last := reached(d)
		for _, c := range []struct {
			i   int
			sum []byte
		}{{0, sum}, {1, sum}, {63, sum}, {66, last}} {
			x := part(sig, c.i)
			for j := d; j < top; j++ {
				x = adrs.F(seed, api.Adrs{Layer: 1, Tree: 2, A: 3, B: uint32(c.i), C: uint32(j)}, x)
			}
			var ends [][]byte
			for i, digit := range byOthers.digits(c.sum) {
				ends = append(ends, byOthers.up(p, seed, i, digit, top, part(sig, i)))
			}
			expect(t, x, ends[c.i], "the steps from a digit", c.i, d)
			ends[c.i] = x
			expect(t, p.stands(seed, c.sum, sig), byOthers.sumOf(p, seed, ends), "P15.2: Stands, from a digit", c.i, d)
		}
	}
}

// P15.2: where no chain of the first 64 has to go up, what a signature has of them is the ends themselves.
func TestStandsEnds(t *testing.T) {
	p, seed, sig := place{4, 5, 6}, rows.Mixed(rowLen, 47), rows.Mixed(sigLen, 48)
	var ends [][]byte
	for i := range 64 {
		ends = append(ends, part(sig, i))
	}
	for i := 64; i < chainCount; i++ {
		ends = append(ends, byLayers.up(p, seed, i, 0, top, part(sig, i)))
	}
	expect(t, p.stands(seed, bytes.Repeat([]byte{255}, rowLen), sig), byLayers.sumOf(p, seed, ends), "P15.2: Stands, of ends")
}

// P15.2: nothing, if seed or sum hasn't 32 bytes, or sig 67 * 32: each alone, and together.
func TestStandsRefused(t *testing.T) {
	m, p, sum := rows.Masked(49), place{1, 2, 3}, all015()
	sig := p.sign(m, sum)
	for _, b := range rows.Wrong(rowLen) {
		n := len(b)
		nothing(t, p.stands(b, sum, sig), "P15.2: Stands, bytes of the seed", n)
		nothing(t, p.stands(m.Seed, b, sig), "P15.2: Stands, bytes of the sum", n)
		nothing(t, p.stands(b, b, sig), "P15.2: Stands, bytes of both", n)
		nothing(t, p.stands(b, b, b), "P15.2: Stands, bytes of all", n)
	}
	for n := range 100 {
		if n == rowLen {
			continue
		}
		nothing(t, p.stands(rows.Mixed(n, 50), sum, sig), "P15.2: Stands, bytes of the seed", n)
		nothing(t, p.stands(m.Seed, rows.Mixed(n, 50), sig), "P15.2: Stands, bytes of the sum", n)
	}
	for _, b := range append(rows.Wrong(sigLen), sig[1:], sig[:sigLen-1], append(bytes.Clone(sig), 0), append(bytes.Clone(sig), sig...)) {
		nothing(t, p.stands(m.Seed, sum, b), "P15.2: Stands, bytes of the signature", len(b))
		nothing(t, wplus.Stands(m.Seed, 0, 0, 0, make([]byte, rowLen), b), "P15.2: Stands, bytes of the signature", len(b))
	}
	// Rows that have as many bytes together aren't those.
	nothing(t, p.stands(m.Seed[:31], rows.Mixed(33, 51), sig), "P15.2: Stands, 31 and 33 bytes")
	nothing(t, p.stands(m.Seed, sum[:31], append(bytes.Clone(sig), 0)), "P15.2: Stands, 31 and 2145 bytes")
	expect(t, p.stands(m.Seed, sum, sig), p.leaf(m), "P15.3: Stands, behind those")
}

// P15.2: a signature with one bit turned, in any of its parts, stands for another leaf.
func TestTurned(t *testing.T) {
	m, p := rows.Masked(52), place{1, 2, 3}
	leaf := p.leaf(m)
	for _, sum := range [][]byte{make([]byte, rowLen), all015(), rows.Mixed(rowLen, 53)} {
		sig := p.sign(m, sum)
		for i := range chainCount {
			other := rows.TurnedBit(sig, 8*rowLen*i+7*i%256)
			got := p.stands(m.Seed, sum, other)
			another(t, got, leaf, "P15.2: Stands, a bit of a part turned", i)
			expect(t, got, byOthers.stands(p, m.Seed, sum, other), "P15.2: Stands, a bit of a part turned", i)
		}
	}
}

// P15.2: likewise each bit of the parts of chains 0, 1, 63 and 66, and each byte of all, where few steps are left.
func TestTurnedBits(t *testing.T) {
	m, p, sum := rows.Masked(54), place{4, 5, 6}, bytes.Repeat([]byte{255}, rowLen)
	leaf, sig := p.leaf(m), p.sign(m, sum)
	for _, i := range []int{0, 1, 63, 66} {
		for bit := range 8 * rowLen {
			another(t, p.stands(m.Seed, sum, rows.TurnedBit(sig, 8*rowLen*i+bit)), leaf, "P15.2: Stands, a bit turned", i, bit)
		}
	}
	if testing.Short() {
		return
	}
	for at := range sig {
		another(t, p.stands(m.Seed, sum, rows.Turned(sig, at)), leaf, "P15.2: Stands, a byte turned", at)
	}
}

// P15.2: parts that change their places, and a part that is gone up one step more or less, stand for another leaf.
func TestMoved(t *testing.T) {
	m, p, sum := rows.Masked(55), place{1, 2, 3}, all015()
	leaf, sig := p.leaf(m), p.sign(m, sum)
	all := byOthers.digits(sum)
	for i, d := range all {
		swapped, more, less := bytes.Clone(sig), bytes.Clone(sig), bytes.Clone(sig)
		copy(part(swapped, i), part(sig, (i+1)%chainCount))
		copy(part(swapped, (i+1)%chainCount), part(sig, i))
		another(t, p.stands(m.Seed, sum, swapped), leaf, "P15.2: Stands, parts exchanged", i)
		copy(part(more, i), byOthers.risen(p, m, i, d+1))
		another(t, p.stands(m.Seed, sum, more), leaf, "P15.2: Stands, a step more", i)
		if d > 0 {
			copy(part(less, i), byOthers.risen(p, m, i, d-1))
			another(t, p.stands(m.Seed, sum, less), leaf, "P15.2: Stands, a step less", i)
		}
	}
}

// P15.2: of another sum a signature stands for another leaf.
func TestOtherSum(t *testing.T) {
	m, p := rows.Masked(56), place{1, 2, 3}
	leaf, list := p.leaf(m), sums()
	for i, sum := range list {
		sig := p.sign(m, sum)
		for _, other := range []int{(i + 1) % len(list), (i + 7) % len(list)} {
			if bytes.Equal(sum, list[other]) {
				continue
			}
			got := p.stands(m.Seed, list[other], sig)
			another(t, got, leaf, "P15.2: Stands, another sum", i, other)
			expect(t, got, byOthers.stands(p, m.Seed, list[other], sig), "P15.2: Stands, another sum", i, other)
		}
	}
	sum := all015()
	sig := p.sign(m, sum)
	for bit := range 256 {
		another(t, p.stands(m.Seed, rows.TurnedBit(sum, bit), sig), leaf, "P15.2: Stands, a bit of the sum turned", bit)
	}
}

// P15.2: of another seed, or another key's, likewise.
func TestOtherSeed(t *testing.T) {
	m, p, sum := rows.Masked(57), place{1, 2, 3}, all015()
	leaf, sig := p.leaf(m), p.sign(m, sum)
	for bit := range 256 {
		seed := rows.TurnedBit(m.Seed, bit)
		got := p.stands(seed, sum, sig)
		another(t, got, leaf, "P15.2: Stands, a bit of the seed turned", bit)
		expect(t, got, byOthers.stands(p, seed, sum, sig), "P15.2: Stands, a bit of the seed turned", bit)
	}
	for _, seed := range [][]byte{m.Secret, m.Salt, make([]byte, rowLen), bytes.Repeat([]byte{255}, rowLen), rows.Masked(58).Seed} {
		another(t, p.stands(seed, sum, sig), leaf, "P15.2: Stands, another seed")
	}
	other := api.Masked{Secret: rows.Masked(58).Secret, Salt: m.Salt, Seed: m.Seed}
	another(t, p.stands(m.Seed, sum, p.sign(other, sum)), leaf, "P15.2: Stands, another secret's")
}

// P15.2: at another place, whatever number is another one, likewise: so it does even where no chain of the first 64 has to go up.
func TestOtherPlace(t *testing.T) {
	m := rows.Masked(59)
	for _, sum := range [][]byte{all015(), bytes.Repeat([]byte{255}, rowLen)} {
		ground := place{1, 2, 3}
		leaf, sig := ground.leaf(m), ground.sign(m, sum)
		for _, p := range apart(ground) {
			if p == ground {
				continue
			}
			got := p.stands(m.Seed, sum, sig)
			another(t, got, leaf, "P15.2: Stands, another place", p)
			another(t, got, p.leaf(m), "P15.2: Stands, another place, and its leaf", p)
			expect(t, got, byOthers.stands(p, m.Seed, sum, sig), "P15.2: Stands, another place", p)
		}
	}
}
