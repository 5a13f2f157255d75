package slh_test

import (
	"bytes"
	"math"
	"testing"

	"tearoff/api"
	"tearoff/rows"
	"tearoff/slh"
)

// P18.1: the chapter's example: 17088 bytes.
func TestExample(t *testing.T) {
	if got := slh.Size(api.Few{N: 16, Layers: 22, Height: 3, K: 33, A: 6}); got != 17088 {
		t.Errorf("P18.1: Size: %v, not 17088", got)
	}
}

// P18.1: Chains and Size of all layers and heights that may be, with some of the other numbers each.
func TestSizes(t *testing.T) {
	for n, p := range chains {
		for i, most := range rows.MostLayers() {
			for layers := 1; layers <= most; layers++ {
				for _, k := range []int{1, 2, 7, 33, 39, 40} {
					for a := 1; a <= 14; a++ {
						f := api.Few{N: n, Layers: layers, Height: i + 1, K: k, A: a}
						if c, s := slh.Chains(f), slh.Size(f); c != p || s != sigLen(f) {
							t.Errorf("P18.1: %v: %v, %v, not %v, %v", f, c, s, p, sigLen(f))
						}
					}
				}
			}
		}
	}
}

// P18.1: the same of some sets, written out: published ones, of one layer and of 22, the least and the greatest.
func TestSizesWrittenOut(t *testing.T) {
	for _, c := range []struct {
		f            api.Few
		chains, size int
	}{
		{api.Few{N: 16, Layers: 7, Height: 9, K: 14, A: 12}, 35, 7856},
		{api.Few{N: 16, Layers: 22, Height: 3, K: 33, A: 6}, 35, 17088},
		{api.Few{N: 24, Layers: 7, Height: 9, K: 17, A: 14}, 51, 16224},
		{api.Few{N: 24, Layers: 22, Height: 3, K: 33, A: 8}, 51, 35664},
		{api.Few{N: 32, Layers: 8, Height: 8, K: 22, A: 14}, 67, 29792},
		{api.Few{N: 16, Layers: 1, Height: 1, K: 1, A: 1}, 35, 624},
		{api.Few{N: 24, Layers: 1, Height: 1, K: 1, A: 1}, 51, 1320},
		{api.Few{N: 32, Layers: 1, Height: 1, K: 1, A: 1}, 67, 2272},
		{api.Few{N: 32, Layers: 1, Height: 9, K: 40, A: 14}, 67, 21664},
		{api.Few{N: 32, Layers: 22, Height: 3, K: 40, A: 14}, 67, 68512},
		{api.Few{N: 16, Layers: 22, Height: 1, K: 1, A: 1}, 35, 12720},
	} {
		if p, s := slh.Chains(c.f), slh.Size(c.f); p != c.chains || s != c.size {
			t.Errorf("P18.1: %v: %v, %v, not %v, %v", c.f, p, s, c.chains, c.size)
		}
	}
}

// P18.1: of sets that may not be, each number at the greatest and the least int too, 0, and no place, however many bytes a digest has.
func TestNoSets(t *testing.T) {
	list := rows.NoFews()
	for i := range 5 {
		for _, v := range []int{math.MinInt, math.MaxInt} {
			f := few()[3]
			*rows.FewFields(&f)[i] = v
			list = append(list, f)
		}
	}
	for _, f := range list {
		if c, s := slh.Chains(f), slh.Size(f); c != 0 || s != 0 {
			t.Errorf("P18.1: %v: %v, %v, not 0, 0", f, c, s)
		}
		for n := range 90 {
			nowhere(t, f, make([]byte, n))
			nowhere(t, f, rows.Mixed(n, 1))
		}
	}
}

// nowhere tells where there is a place that may not be.
func nowhere(t *testing.T, f api.Few, digest []byte) {
	t.Helper()
	if tree, q, ok := slh.Where(f, digest); tree != 0 || q != 0 || ok {
		t.Errorf("P18.1: Where, %v, of %v bytes: %v, %v, %v", f, len(digest), tree, q, ok)
	}
}

// expectWhere tells where a place isn't what it must be.
func expectWhere(t *testing.T, f api.Few, digest []byte, tree uint64, q uint32) {
	t.Helper()
	if x, y, ok := slh.Where(f, digest); x != tree || y != q || !ok {
		t.Errorf("P18.1: Where, %v, of %x: %v, %v, %v, not %v, %v", f, digest, x, y, ok, tree, q)
	}
}

// P18.1: Where of some digests, written out: of one layer; where K * A, all bits of the tree, and those of the leaf are a whole number of bytes and where they aren't; and with 63 bits of the tree.
func TestWhereWrittenOut(t *testing.T) {
	for _, c := range []struct {
		layers, height, k, a int
		digest               []byte
		tree                 uint64
		q                    uint32
	}{
		{1, 1, 1, 1, []byte{255, 0}, 0, 0},
		{1, 1, 1, 1, []byte{0, 255}, 0, 1},
		{1, 3, 8, 1, []byte{255, 0xfe}, 0, 6},
		{1, 3, 9, 1, []byte{255, 255, 0xfd}, 0, 5},
		{1, 8, 4, 2, []byte{1, 2}, 0, 2},
		{1, 9, 4, 2, []byte{1, 2, 3}, 0, 3},
		{1, 9, 4, 2, []byte{1, 3, 2}, 0, 0x102},
		{2, 1, 1, 8, []byte{1, 2, 3}, 0, 1},
		{2, 1, 1, 8, []byte{1, 3, 2}, 1, 0},
		{2, 8, 1, 8, []byte{1, 2, 3}, 2, 3},
		{2, 9, 1, 9, []byte{255, 255, 1, 2, 3, 4}, 0x102, 0x104},
		{3, 2, 4, 3, []byte{9, 9, 0x3b, 0x0e}, 11, 2},
		{3, 4, 8, 1, []byte{9, 0xab, 0xcd}, 0xab, 13},
		{4, 4, 8, 1, []byte{9, 0xfa, 0xbc, 0xde}, 0xabc, 14},
		{8, 9, 3, 8, []byte{1, 2, 3, 0xff, 0xff, 0xff, 0xff, 0xff, 0xff, 0xff, 0xff, 0xff, 0xff}, 1<<63 - 1, 511},
		{8, 9, 3, 8, []byte{1, 2, 3, 0x80, 0, 0, 0, 0, 0, 0, 1, 0, 1}, 1, 1},
		{8, 9, 3, 8, []byte{1, 2, 3, 0x12, 0x34, 0x56, 0x78, 0x9a, 0xbc, 0xde, 0xf0, 0x02, 0x23}, 0x123456789abcdef0, 0x23},
		{22, 3, 1, 1, []byte{1, 0x92, 0x34, 0x56, 0x78, 0x9a, 0xbc, 0xde, 0xf0, 0xf9}, 0x123456789abcdef0, 1},
		{10, 7, 1, 1, []byte{1, 0xff, 0, 0, 0, 0, 0, 0, 0, 0xff}, 0x7f00000000000000, 127},
		{8, 8, 1, 1, []byte{1, 0xfe, 2, 3, 4, 5, 6, 7, 8}, 0xfe020304050607, 8},
	} {
		for _, n := range []int{16, 24, 32} {
			f := api.Few{N: n, Layers: c.layers, Height: c.height, K: c.k, A: c.a}
			expectWhere(t, f, c.digest, c.tree, c.q)
		}
	}
}

// P18.1: Where of each number of layers and height, of mixed bytes, noughts and ones, of just as many as there must be; of no others.
func TestWhere(t *testing.T) {
	for i, most := range rows.MostLayers() {
		for layers := 1; layers <= most; layers++ {
			for _, ka := range [][2]int{{1, 1}, {2, 4}, {3, 3}, {33, 6}, {40, 14}, {16, 8}, {39, 13}} {
				f := api.Few{N: []int{16, 24, 32}[(i+layers)%3], Layers: layers, Height: i + 1, K: ka[0], A: ka[1]}
				n := digestLen(f)
				for _, digest := range [][]byte{rows.Mixed(n, byte(layers)), make([]byte, n), bytes.Repeat([]byte{255}, n), rows.Guarded(rows.Mixed(n, 3))} {
					_, tree, q := parted(f, digest)
					expectWhere(t, f, digest, tree, q)
				}
				for _, other := range []int{0, 1, n - 2, n - 1, n + 1, n + 2, n + 8, 2 * n, n + 256, n + 1<<16} {
					if other != n {
						nowhere(t, f, rows.Mixed(other, 4))
						nowhere(t, f, append(make([]byte, 0, other+n), rows.Mixed(other, 4)...))
					}
				}
				nowhere(t, f, nil)
			}
		}
	}
}

// P18.1: each bit of a digest tells in the tree, in the leaf, or in neither.
func TestWhereBits(t *testing.T) {
	for i, most := range rows.MostLayers() {
		for _, layers := range []int{1, 2, most} {
			f := api.Few{N: 16, Layers: layers, Height: i + 1, K: 3, A: 5}
			digest := rows.Mixed(digestLen(f), 5)
			_, tree, q := parted(f, digest)
			a, b, c := lengths(f)
			for bit := range 8 * len(digest) {
				// Counted from the end of the tree's bytes, and of the leaf's.
				x, y := tree, q
				if at := 8*(a+b) - 1 - bit; bit >= 8*a && at >= 0 && at < (layers-1)*f.Height {
					x ^= 1 << at
				}
				if at := 8*(a+b+c) - 1 - bit; at < f.Height {
					y ^= 1 << at
				}
				expectWhere(t, f, rows.TurnedBit(digest, bit), x, y)
			}
		}
	}
}

// P18.1: the digest stays as it was, with its spare room, which doesn't tell.
func TestWhereApart(t *testing.T) {
	for _, f := range append(few(), rows.HighFews()...) {
		b := rows.Guarded(rows.Mixed(digestLen(f), 6))
		was := rows.Full(b)
		_, tree, q := parted(f, b)
		expectWhere(t, f, b, tree, q)
		nowhere(t, f, b[:len(b)-1])
		if rows.Full(b) != was {
			t.Errorf("P18.1: Where, %v: changed", f)
		}
		expectWhere(t, f, bytes.Clone(b), tree, q)
	}
}
