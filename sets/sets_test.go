package sets_test

import (
	"math"
	"slices"
	"testing"

	"tearoff/api"
	"tearoff/sets"
)

// knownOts are the one-time sets, as they are published: code, kind, size, width, digits, shift.
var knownOts = []api.Ots{
	{Code: 1, Kind: 0, N: 32, W: 1, P: 265, Shift: 7},
	{Code: 2, Kind: 0, N: 32, W: 2, P: 133, Shift: 6},
	{Code: 3, Kind: 0, N: 32, W: 4, P: 67, Shift: 4},
	{Code: 4, Kind: 0, N: 32, W: 8, P: 34, Shift: 0},
	{Code: 5, Kind: 0, N: 24, W: 1, P: 200, Shift: 8},
	{Code: 6, Kind: 0, N: 24, W: 2, P: 101, Shift: 6},
	{Code: 7, Kind: 0, N: 24, W: 4, P: 51, Shift: 4},
	{Code: 8, Kind: 0, N: 24, W: 8, P: 26, Shift: 0},
	{Code: 9, Kind: 1, N: 32, W: 1, P: 265, Shift: 7},
	{Code: 10, Kind: 1, N: 32, W: 2, P: 133, Shift: 6},
	{Code: 11, Kind: 1, N: 32, W: 4, P: 67, Shift: 4},
	{Code: 12, Kind: 1, N: 32, W: 8, P: 34, Shift: 0},
	{Code: 13, Kind: 1, N: 24, W: 1, P: 200, Shift: 8},
	{Code: 14, Kind: 1, N: 24, W: 2, P: 101, Shift: 6},
	{Code: 15, Kind: 1, N: 24, W: 4, P: 51, Shift: 4},
	{Code: 16, Kind: 1, N: 24, W: 8, P: 26, Shift: 0},
}

// knownTrees are the sets of trees, those of this set's own last: code, kind, size, height.
var knownTrees = []api.Tree{
	{Code: 5, Kind: 0, N: 32, H: 5}, {Code: 6, Kind: 0, N: 32, H: 10}, {Code: 7, Kind: 0, N: 32, H: 15}, {Code: 8, Kind: 0, N: 32, H: 20}, {Code: 9, Kind: 0, N: 32, H: 25},
	{Code: 10, Kind: 0, N: 24, H: 5}, {Code: 11, Kind: 0, N: 24, H: 10}, {Code: 12, Kind: 0, N: 24, H: 15}, {Code: 13, Kind: 0, N: 24, H: 20}, {Code: 14, Kind: 0, N: 24, H: 25},
	{Code: 15, Kind: 1, N: 32, H: 5}, {Code: 16, Kind: 1, N: 32, H: 10}, {Code: 17, Kind: 1, N: 32, H: 15}, {Code: 18, Kind: 1, N: 32, H: 20}, {Code: 19, Kind: 1, N: 32, H: 25},
	{Code: 20, Kind: 1, N: 24, H: 5}, {Code: 21, Kind: 1, N: 24, H: 10}, {Code: 22, Kind: 1, N: 24, H: 15}, {Code: 23, Kind: 1, N: 24, H: 20}, {Code: 24, Kind: 1, N: 24, H: 25},
	{Code: 0xf0000001, Kind: 0, N: 32, H: 1}, {Code: 0xf0000002, Kind: 0, N: 32, H: 2}, {Code: 0xf0000003, Kind: 0, N: 32, H: 3}, {Code: 0xf0000004, Kind: 0, N: 32, H: 4},
	{Code: 0xf0000005, Kind: 0, N: 24, H: 1}, {Code: 0xf0000006, Kind: 0, N: 24, H: 2}, {Code: 0xf0000007, Kind: 0, N: 24, H: 3}, {Code: 0xf0000008, Kind: 0, N: 24, H: 4},
	{Code: 0xf0000009, Kind: 1, N: 32, H: 1}, {Code: 0xf000000a, Kind: 1, N: 32, H: 2}, {Code: 0xf000000b, Kind: 1, N: 32, H: 3}, {Code: 0xf000000c, Kind: 1, N: 32, H: 4},
	{Code: 0xf000000d, Kind: 1, N: 24, H: 1}, {Code: 0xf000000e, Kind: 1, N: 24, H: 2}, {Code: 0xf000000f, Kind: 1, N: 24, H: 3}, {Code: 0xf0000010, Kind: 1, N: 24, H: 4},
}

// lookOts, lookTree: what a code must tell, from the lists above.
func lookOts(code uint32) (api.Ots, api.Code) {
	for _, o := range knownOts {
		if o.Code == code {
			return o, api.OK
		}
	}
	return api.Ots{}, api.Unknown
}

func lookTree(code uint32) (api.Tree, api.Code) {
	for _, x := range knownTrees {
		if x.Code == code {
			return x, api.OK
		}
	}
	return api.Tree{}, api.Unknown
}

// expectOts, expectTree tell where a code doesn't tell what it must.
func expectOts(t *testing.T, code uint32) {
	t.Helper()
	want, wantCode := lookOts(code)
	if got, e := sets.Ots(code); got != want || e != wantCode {
		t.Errorf("P8.1: Ots(%#x): %+v, %v, not %+v, %v", code, got, e, want, wantCode)
	}
}

func expectTree(t *testing.T, code uint32) {
	t.Helper()
	want, wantCode := lookTree(code)
	if got, e := sets.Tree(code); got != want || e != wantCode {
		t.Errorf("P8.1: Tree(%#x): %+v, %v, not %+v, %v", code, got, e, want, wantCode)
	}
}

// knownCodes: those of both lists above.
func knownCodes() (ots, trees []uint32) {
	for _, o := range knownOts {
		ots = append(ots, o.Code)
	}
	for _, x := range knownTrees {
		trees = append(trees, x.Code)
	}
	return ots, trees
}

// P8.1: the chapter's example: SHA-256, 32 bytes, width 4, 67 digits, 4.
func TestExample(t *testing.T) {
	want := api.Ots{Code: 3, Kind: 0, N: 32, W: 4, P: 67, Shift: 4}
	if got, e := sets.Ots(3); got != want || e != api.OK {
		t.Errorf("P8.1: Ots(3): %+v, %v, not %+v, OK", got, e, want)
	}
}

// P8.1: every code tells its set.
func TestEveryCode(t *testing.T) {
	ots, trees := knownCodes()
	if len(ots) != 16 || len(trees) != 36 {
		t.Fatalf("%v one-time sets, %v trees are written out, not 16, 36", len(ots), len(trees))
	}
	for _, code := range ots {
		expectOts(t, code)
	}
	for _, code := range trees {
		expectTree(t, code)
	}
}

// P8.1: codes that are none are Unknown, and tell nothing: those just beside the known ones first.
func TestNoCode(t *testing.T) {
	for _, code := range []uint32{0, 17, 18, 24, 25, 26, 255, 256, 257, 0x10001, 0x01000000, math.MaxInt32, 1 << 31, 0xefffffff, 0xf0000000, 0xf0000001, 0xf0000010, 0xf0000011, 0xf0000012, math.MaxUint32 - 1, math.MaxUint32} {
		if got, e := sets.Ots(code); got != (api.Ots{}) || e != api.Unknown {
			t.Errorf("P8.1: Ots(%#x): %+v, %v, not nothing, Unknown", code, got, e)
		}
	}
	for _, code := range []uint32{0, 1, 2, 3, 4, 25, 26, 27, 255, 256, 261, 0x10005, 0x05000000, math.MaxInt32, 1 << 31, 0x70000001, 0xefffffff, 0xf0000000, 0xf0000011, 0xf0000012, 0xf0000024, 0xf0000101, math.MaxUint32 - 1, math.MaxUint32} {
		if got, e := sets.Tree(code); got != (api.Tree{}) || e != api.Unknown {
			t.Errorf("P8.1: Tree(%#x): %+v, %v, not nothing, Unknown", code, got, e)
		}
	}
}

// P8.1: codes of all sizes, near the known ones and far from them, and those that differ from a known one in one or two bits.
func TestManyCodes(t *testing.T) {
	const around = 1 << 16
	var codes []uint32
	for i := range uint32(around) {
		codes = append(codes, i, math.MaxUint32-i, 1<<31-around/2+i, 0xf0000000-around/2+i, i<<16|i&31)
	}
	ots, trees := knownCodes()
	for _, code := range append(ots, trees...) {
		for i := range 32 {
			for j := range 32 {
				codes = append(codes, code^1<<i^1<<j, code^1<<i)
			}
		}
	}
	for _, code := range codes {
		expectOts(t, code)
		expectTree(t, code)
	}
}

// P8.1: an unknown code leaves nothing behind: the next call tells what it did ahead.
func TestAfterUnknown(t *testing.T) {
	for _, o := range knownOts {
		expectOts(t, 0)
		expectOts(t, o.Code)
		expectTree(t, 0xf0000011)
		expectOts(t, o.Code)
	}
	for _, x := range knownTrees {
		expectTree(t, 25)
		expectTree(t, x.Code)
		expectOts(t, 17)
		expectTree(t, x.Code)
	}
}

// P8.1, P8.2: all codes, rising, so that no two are alike.
func TestCodes(t *testing.T) {
	ots, trees := knownCodes()
	for _, c := range []struct {
		name      string
		got, want []uint32
	}{{"OtsCodes", sets.OtsCodes(), ots}, {"TreeCodes", sets.TreeCodes(), trees}} {
		if !slices.Equal(c.got, c.want) {
			t.Errorf("P8.1: %v(): %#x, not %#x", c.name, c.got, c.want)
		}
		for i := 1; i < len(c.got); i++ {
			if c.got[i] <= c.got[i-1] {
				t.Errorf("P8.1, P8.2: %v(): %#x behind %#x", c.name, c.got[i], c.got[i-1])
			}
		}
	}
}

// P8.2: each code that is told is of a set, which bears it; no two sets are alike but for their codes, and no P is above 265.
func TestNoTwoAlike(t *testing.T) {
	seenOts, most := map[api.Ots]uint32{}, 0
	for _, code := range sets.OtsCodes() {
		o, e := sets.Ots(code)
		if e != api.OK || o.Code != code {
			t.Errorf("P8.2: Ots(%#x): %+v, %v", code, o, e)
		}
		if o.P < 1 || o.P > 265 {
			t.Errorf("P8.2: Ots(%#x) has %v digits", code, o.P)
		}
		most = max(most, o.P)
		o.Code = 0
		if other, ok := seenOts[o]; ok {
			t.Errorf("P8.2: Ots: %#x and %#x are of one set", other, code)
		}
		seenOts[o] = code
	}
	if most != 265 {
		t.Errorf("P8.2: the most digits of all sets are %v, not 265", most)
	}
	seenTree := map[api.Tree]uint32{}
	for _, code := range sets.TreeCodes() {
		x, e := sets.Tree(code)
		if e != api.OK || x.Code != code {
			t.Errorf("P8.2: Tree(%#x): %+v, %v", code, x, e)
		}
		x.Code = 0
		if other, ok := seenTree[x]; ok {
			t.Errorf("P8.2: Tree: %#x and %#x are of one set", other, code)
		}
		seenTree[x] = code
	}
}

// P8.1: every set and every tree, held against each other by kind and size.
func TestFit(t *testing.T) {
	fits := 0
	for _, o := range knownOts {
		for _, x := range knownTrees {
			want := o.Kind == x.Kind && o.N == x.N
			if got := sets.Fit(o, x); got != want {
				t.Errorf("P8.1: Fit(%+v, %+v): %v", o, x, got)
			}
			if want {
				fits++
			}
		}
	}
	if fits != 16*9 {
		t.Errorf("%v pairs go together, not 16 * 9", fits)
	}
}

// P8.1: Fit written out; and on kind and size alone it hangs, not on anything else of a set.
func TestFitWrittenOut(t *testing.T) {
	for _, c := range []struct {
		o    api.Ots
		t    api.Tree
		want bool
	}{
		{api.Ots{Code: 3, Kind: 0, N: 32, W: 4, P: 67, Shift: 4}, api.Tree{Code: 5, Kind: 0, N: 32, H: 5}, true},
		{api.Ots{Code: 3, Kind: 0, N: 32, W: 4, P: 67, Shift: 4}, api.Tree{Code: 10, Kind: 0, N: 24, H: 5}, false},
		{api.Ots{Code: 3, Kind: 0, N: 32, W: 4, P: 67, Shift: 4}, api.Tree{Code: 15, Kind: 1, N: 32, H: 5}, false},
		{api.Ots{Code: 3, Kind: 0, N: 32, W: 4, P: 67, Shift: 4}, api.Tree{Code: 20, Kind: 1, N: 24, H: 5}, false},
		{api.Ots{Code: 7, Kind: 0, N: 24, W: 4, P: 51, Shift: 4}, api.Tree{Code: 0xf0000006, Kind: 0, N: 24, H: 2}, true},
		{api.Ots{Code: 5, Kind: 0, N: 24, W: 1, P: 200, Shift: 8}, api.Tree{Code: 5, Kind: 0, N: 32, H: 5}, false},
		{api.Ots{Code: 16, Kind: 1, N: 24, W: 8, P: 26}, api.Tree{Code: 0xf0000010, Kind: 1, N: 24, H: 4}, true},
		{api.Ots{Code: 9, Kind: 1, N: 32, W: 1, P: 265, Shift: 7}, api.Tree{Code: 9, Kind: 0, N: 32, H: 25}, false},
		{api.Ots{Kind: 1, N: 32}, api.Tree{Kind: 1, N: 32}, true},
		{api.Ots{Kind: 1, N: 32}, api.Tree{Kind: 1, N: 24}, false},
		{api.Ots{Kind: 0, N: 24}, api.Tree{Kind: 1, N: 24}, false},
		{api.Ots{Code: 99, Kind: 1, N: 24, W: 3, P: -1, Shift: 40}, api.Tree{Code: 98, Kind: 1, N: 24, H: -7}, true},
	} {
		if got := sets.Fit(c.o, c.t); got != c.want {
			t.Errorf("P8.1: Fit(%+v, %+v): %v", c.o, c.t, got)
		}
	}
}

// P8.1: how many leaves trees of every height have.
func TestLeaves(t *testing.T) {
	want := []uint64{1: 2, 2: 4, 3: 8, 4: 16, 5: 32, 6: 64, 7: 128, 8: 256, 9: 512, 10: 1024, 11: 2048, 12: 4096, 13: 8192, 14: 16384, 15: 32768, 16: 65536, 17: 131072, 18: 262144, 19: 524288, 20: 1048576, 21: 2097152, 22: 4194304, 23: 8388608, 24: 16777216, 25: 33554432}
	for h := 1; h <= 25; h++ {
		for _, x := range []api.Tree{{H: h}, {Code: 5, Kind: 0, N: 32, H: h}, {Code: 99, Kind: 7, N: -1, H: h}} {
			if got := sets.Leaves(x); got != want[h] {
				t.Errorf("P8.1: Leaves(%+v): %v, not %v", x, got, want[h])
			}
		}
	}
	for _, x := range knownTrees {
		if got := sets.Leaves(x); got != want[x.H] {
			t.Errorf("P8.1: Leaves(%+v): %v, not %v", x, got, want[x.H])
		}
	}
}

// P8.1: trees of other heights have none.
func TestNoLeaves(t *testing.T) {
	heights := []int{0, -1, 26, 1 << 8, 1<<8 + 5, 1 << 16, 1<<16 + 5, 1 << 31, 1<<32 + 1, 1<<32 + 5, 1<<32 + 25, math.MaxInt32, math.MinInt32, math.MinInt32 + 5, math.MaxInt - 1, math.MaxInt, math.MinInt, math.MinInt + 1, math.MinInt + 5}
	for h := range 1000 {
		heights = append(heights, 26+h, -h)
	}
	for _, h := range heights {
		for _, x := range []api.Tree{{H: h}, {Code: 5, Kind: 0, N: 32, H: h}} {
			if got := sets.Leaves(x); got != 0 {
				t.Errorf("P8.1: Leaves(%+v): %v, not 0", x, got)
			}
		}
	}
}

// P8.1: what was answered may be written over, spare room too: no other answer hangs on it.
func TestAnswersApart(t *testing.T) {
	ots, trees := knownCodes()
	for _, c := range []struct {
		name string
		call func() []uint32
		want []uint32
	}{{"OtsCodes", sets.OtsCodes, ots}, {"TreeCodes", sets.TreeCodes, trees}} {
		first, second := c.call(), c.call()
		full := second[:cap(second)]
		for i := range full {
			full[i] = 7
		}
		if !slices.Equal(first, c.want) {
			t.Errorf("P8.1: %v(), beside an answer that was written over: %#x", c.name, first)
		}
		if got := c.call(); !slices.Equal(got, c.want) {
			t.Errorf("P8.1: %v(), behind an answer that was written over: %#x", c.name, got)
		}
	}
	for _, code := range ots {
		o, _ := sets.Ots(code)
		o.N, o.P = 1, 1
		expectOts(t, code)
	}
	for _, code := range trees {
		x, _ := sets.Tree(code)
		x.N, x.H = 1, 1
		expectTree(t, code)
	}
}
