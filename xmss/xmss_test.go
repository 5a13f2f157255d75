package xmss_test

import (
	"bytes"
	"math"
	"slices"
	"testing"

	"tearoff/adrs"
	"tearoff/api"
	"tearoff/rows"
	"tearoff/wplus"
	"tearoff/xmss"
)

// highest is how high a shape of 1, 2, 3 layers and so on may be.
var highest = []int{20, 20, 20, 15, 12, 10, 8, 7, 6, 6, 5, 5}

// mayBe: all shapes that may be.
func mayBe() []api.Shape {
	var out []api.Shape
	for i, high := range highest {
		for h := range high {
			out = append(out, api.Shape{Layers: i + 1, Height: h + 1})
		}
	}
	return out
}

// mayNotBe: shapes that may not be: with numbers at all edges, near them and far, each number beside each other one.
func mayNotBe() []api.Shape {
	list := []int{math.MinInt, math.MinInt + 1, -1 << 62, -1 << 32, -1 << 31, -256, -60, 1 << 8, 1<<8 + 1, 1<<16 + 1, 1 << 31, 1 << 32, 1<<32 + 1, 1<<32 + 2, 1 << 61, 1 << 62, 1<<62 + 1, math.MaxInt - 1, math.MaxInt, math.MaxInt/2 + 1, math.MinInt / 2}
	for v := -25; v < 70; v++ {
		list = append(list, v)
	}
	may := mayBe()
	var out []api.Shape
	for _, d := range list {
		for _, h := range list {
			if x := (api.Shape{Layers: d, Height: h}); !slices.Contains(may, x) {
				out = append(out, x)
			}
		}
	}
	return out
}

// tooHigh: shapes that may be, but can't be made.
func tooHigh() []api.Shape {
	return slices.DeleteFunc(mayBe(), func(x api.Shape) bool { return x.Height <= 6 })
}

// P16.1: the chapter's example: 16 signatures of 40 + 2 * 2208 bytes.
func TestExample(t *testing.T) {
	x, m := api.Shape{Layers: 2, Height: 2}, rows.Masked(1)
	if got := xmss.Total(x); got != 16 {
		t.Errorf("P16.1: Total: %v, not 16", got)
	}
	if got := xmss.Size(x); got != 40+2*2208 {
		t.Errorf("P16.1: Size: %v, not 4456", got)
	}
	for n := range uint64(16) {
		if got := len(sign(t, x, m, n, []byte("text"))); got != 40+2*2208 {
			t.Errorf("P16.2: Sign, at %v: %v bytes, not 4456", n, got)
		}
	}
	refused(t, x, m, 16, []byte("text"), api.Exhausted)
}

// P16.1: May, Total and Size of all shapes that may be.
func TestShapes(t *testing.T) {
	for _, x := range mayBe() {
		total, size := uint64(1), 8+32
		for range x.Layers {
			size += 67 * 32
			for range x.Height {
				total, size = 2*total, size+32
			}
		}
		if !xmss.May(x) || xmss.Total(x) != total || xmss.Size(x) != size {
			t.Errorf("P16.1: %v: %v, %v, %v, not true, %v, %v", x, xmss.May(x), xmss.Total(x), xmss.Size(x), total, size)
		}
	}
}

// P16.1: the same of some, written out.
func TestShapesWrittenOut(t *testing.T) {
	for _, c := range []struct {
		d, h  int
		total uint64
		size  int
	}{
		{1, 1, 2, 2216}, {1, 20, 1048576, 2824}, {12, 1, 4096, 26152}, {12, 5, 1 << 60, 27688}, {3, 20, 1 << 60, 8392}, {10, 6, 1 << 60, 23400}, {4, 15, 1 << 60, 10536}, {11, 5, 1 << 55, 25384}, {1, 6, 64, 2376}, {1, 7, 128, 2408},
	} {
		x := api.Shape{Layers: c.d, Height: c.h}
		if !xmss.May(x) || xmss.Total(x) != c.total || xmss.Size(x) != c.size {
			t.Errorf("P16.1: %v: %v, %v, %v, not true, %v, %v", x, xmss.May(x), xmss.Total(x), xmss.Size(x), c.total, c.size)
		}
	}
}

// P16.1: the same of shapes that may not be, and that nothing comes of them.
func TestNoShapes(t *testing.T) {
	m := rows.Masked(2)
	for _, x := range mayNotBe() {
		if xmss.May(x) || xmss.Total(x) != 0 || xmss.Size(x) != 0 {
			t.Errorf("P16.1: %v: %v, %v, %v, not false, 0, 0", x, xmss.May(x), xmss.Total(x), xmss.Size(x))
		}
		expectNone(t, x, m)
	}
}

// expectNone tells where something is made of a shape, or of secrets.
func expectNone(t *testing.T, x api.Shape, m api.Masked) {
	t.Helper()
	nothing(t, xmss.Public(x, m), "P16.1: Public", x)
	for _, layer := range []uint32{0, 1, uint32(x.Layers - 1), uint32(x.Layers), math.MaxUint32} {
		for _, tree := range []uint64{0, 1, math.MaxUint64} {
			nothing(t, xmss.Root(x, m, layer, tree), "P16.1: Root", x, layer, tree)
		}
	}
	for _, n := range []uint64{0, 1, math.MaxUint64} {
		refused(t, x, m, n, nil, api.Arg)
	}
}

// P16.1, P16.2: nothing is made of shapes that may be, but have a height of 7 or more.
func TestTooHigh(t *testing.T) {
	list := tooHigh()
	if len(list) != 14+14+14+9+6+4+2+1 {
		t.Fatalf("%v shapes", len(list))
	}
	for _, m := range rows.Maskeds() {
		for _, x := range list {
			expectNone(t, x, m)
		}
	}
}

// P16.1, P16.2: nothing is made of secrets that may not be.
func TestNoSecrets(t *testing.T) {
	for _, m := range rows.NoMaskeds() {
		for _, x := range []api.Shape{{Layers: 1, Height: 1}, {Layers: 2, Height: 2}, {Layers: 12, Height: 5}, {Layers: 1, Height: 7}, {}} {
			expectNone(t, x, m)
		}
	}
}

// P16.1: trees of the height 1, written out: the lowest layer, the top one, and a tree above 0.
func TestRootOfTwo(t *testing.T) {
	x := api.Shape{Layers: 3, Height: 1}
	for _, m := range rows.Maskeds() {
		for _, c := range []struct {
			layer uint32
			tree  uint64
		}{{0, 0}, {0, 1}, {0, 2}, {0, 3}, {1, 0}, {1, 1}, {2, 0}} {
			left, right := wplus.Leaf(m, c.layer, c.tree, 0), wplus.Leaf(m, c.layer, c.tree, 1)
			want := adrs.H(m.Seed, api.Adrs{Layer: c.layer, Tree: c.tree, Kind: 2}, left, right)
			expect(t, xmss.Root(x, m, c.layer, c.tree), want, "P16.1: Root", x, c)
		}
	}
}

// P16.1: trees of the height 2, likewise.
func TestRootOfFour(t *testing.T) {
	x := api.Shape{Layers: 2, Height: 2}
	for _, m := range rows.Maskeds() {
		for _, c := range []struct {
			layer uint32
			tree  uint64
		}{{0, 0}, {0, 1}, {0, 3}, {1, 0}} {
			leaf := func(q uint32) []byte { return wplus.Leaf(m, c.layer, c.tree, q) }
			left := adrs.H(m.Seed, api.Adrs{Layer: c.layer, Tree: c.tree, Kind: 2, B: 0, C: 0}, leaf(0), leaf(1))
			right := adrs.H(m.Seed, api.Adrs{Layer: c.layer, Tree: c.tree, Kind: 2, B: 0, C: 1}, leaf(2), leaf(3))
			want := adrs.H(m.Seed, api.Adrs{Layer: c.layer, Tree: c.tree, Kind: 2, B: 1, C: 0}, left, right)
			expect(t, xmss.Root(x, m, c.layer, c.tree), want, "P16.1: Root", x, c)
		}
	}
}

// trees: how many trees a layer has.
func trees(x api.Shape, layer int) uint64 { return 1 << (x.Height * (x.Layers - layer - 1)) }

// expectRoot tells where a root isn't what it must be.
func expectRoot(t *testing.T, x api.Shape, m api.Masked, layer int, tree uint64) {
	t.Helper()
	got := xmss.Root(x, m, uint32(layer), tree)
	for _, means := range allMeans {
		expect(t, got, means.root(x, m, uint32(layer), tree), "P16.1: Root", x, layer, tree)
	}
}

// P16.1: all trees of some shapes, put together; all roots of a key are unlike.
func TestRoots(t *testing.T) {
	m := rows.Masked(3)
	for _, x := range append(few(), api.Shape{Layers: 4, Height: 1}, api.Shape{Layers: 2, Height: 3}) {
		told := map[string]bool{}
		count := 0
		for layer := range x.Layers {
			for tree := range trees(x, layer) {
				expectRoot(t, x, m, layer, tree)
				told[string(xmss.Root(x, m, uint32(layer), tree))] = true
				count++
			}
		}
		if len(told) != count {
			t.Errorf("P16.1: Root, %v: of %v trees %v roots", x, count, len(told))
		}
	}
}

// made: all shapes that can be made.
func made() []api.Shape {
	return slices.DeleteFunc(mayBe(), func(x api.Shape) bool { return x.Height > 6 })
}

// P16.1: of every shape that can be made no tree from the first one on that a layer hasn't.
func TestNoTree(t *testing.T) {
	m := rows.Masked(4)
	for _, x := range made() {
		for layer := range x.Layers {
			for _, tree := range beyond(trees(x, layer)) {
				nothing(t, xmss.Root(x, m, uint32(layer), tree), "P16.1: Root, no such tree", x, layer, tree)
			}
		}
	}
}

// P16.1: the last tree of each layer, of shapes of the height 1, and of the lowest layer of the greatest shapes. (With -short: not of these.)
func TestLastTree(t *testing.T) {
	m := rows.Masked(4)
	for d := 1; d <= 12; d++ {
		x := api.Shape{Layers: d, Height: 1}
		for layer := range d {
			expectRoot(t, x, m, layer, trees(x, layer)-1)
		}
	}
	if testing.Short() {
		return
	}
	for _, x := range []api.Shape{{Layers: 12, Height: 5}, {Layers: 10, Height: 6}} {
		expectRoot(t, x, m, 0, trees(x, 0)-1)
	}
}

// beyond: numbers from count on: the first ones, such as are alike to lower ones by their last bits, and the greatest.
func beyond(count uint64) []uint64 {
	return []uint64{count, count + 1, 2*count - 1 + count%2, 2 * count, 3 * count, count + 1<<16, count + 1<<32, 1 << 62, 1<<62 + count, 1 << 63, math.MaxUint64 - 1, math.MaxUint64}
}

// P16.1: layers that there aren't.
func TestNoLayer(t *testing.T) {
	m := rows.Masked(5)
	for _, x := range made() {
		d := uint32(x.Layers)
		for _, layer := range []uint32{d, d + 1, d + 12, d + 64, 64, 256, 1 << 16, 1 << 30, 1 << 31, 1<<31 + 1, d + 1<<31, math.MaxUint32 - 12, math.MaxUint32 - 1, math.MaxUint32} {
			for _, tree := range []uint64{0, 1, 1 << 32, math.MaxUint64} {
				nothing(t, xmss.Root(x, m, layer, tree), "P16.1: Root, no such layer", x, layer, tree)
			}
		}
	}
}

// P16.1: what a tree is doesn't hang on how many layers there are.
func TestRootOfEachShape(t *testing.T) {
	m := rows.Masked(6)
	for _, h := range []int{1, 2} {
		for d := 3; d <= 12; d += 3 {
			x := api.Shape{Layers: d, Height: h}
			expectRoot(t, x, m, 0, 0)
			expectRoot(t, x, m, 1, 1)
			expectRoot(t, x, m, 2, 0)
		}
	}
}

// P16.1: the public key is the top root, and Seed. (With -short: of low trees.)
func TestPublic(t *testing.T) {
	for i, m := range rows.Maskeds() {
		for _, x := range append(few(), api.Shape{Layers: 12, Height: 1}, api.Shape{Layers: 12, Height: 5}, api.Shape{Layers: 10, Height: 6}, api.Shape{Layers: 1, Height: 6}) {
			if x.Height > 3 && (i > 0 || testing.Short()) {
				continue
			}
			got := xmss.Public(x, m)
			if len(got) != 64 {
				t.Fatalf("P16.1: Public, %v: %v bytes, not 64", x, len(got))
			}
			expect(t, got[32:], m.Seed, "P16.1: Public, the seed", x)
			expect(t, got[:32], xmss.Root(x, m, uint32(x.Layers-1), 0), "P16.1: Public, the root", x)
			for _, means := range allMeans {
				expect(t, got, means.public(x, m), "P16.1: Public", x)
			}
		}
	}
}

// P16.1: each byte of the secret and of the seed tells in the root, no byte of the salt does.
func TestSecretsTell(t *testing.T) {
	m, x := rows.Masked(7), api.Shape{Layers: 1, Height: 1}
	pub := xmss.Public(x, m)
	for at := range rowLen {
		for _, other := range []api.Masked{
			{Secret: rows.Turned(m.Secret, at), Salt: m.Salt, Seed: m.Seed},
			{Secret: m.Secret, Salt: m.Salt, Seed: rows.Turned(m.Seed, at)},
		} {
			got := xmss.Public(x, other)
			expect(t, got, byOthers.public(x, other), "P16.1: Public, another byte", at)
			if bytes.Equal(got[:rowLen], pub[:rowLen]) {
				t.Errorf("P16.1: Public, another byte %v: the same root", at)
			}
		}
		salted := api.Masked{Secret: m.Secret, Salt: rows.Turned(m.Salt, at), Seed: m.Seed}
		expect(t, xmss.Public(x, salted), pub, "P16.1: Public, another salt", at)
	}
}
