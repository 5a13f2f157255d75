package walk_test

import (
	"bytes"
	"math"
	"slices"
	"strconv"
	"testing"

	"tearoff/api"
	"tearoff/merkle"
	"tearoff/rows"
	"tearoff/walk"
)

// each runs a test with each tree whose height lies between two, of both kinds and sizes.
func each(t *testing.T, from, to int, do func(t *testing.T, s api.Tree)) {
	for _, s := range rows.TreesOf(from, to) {
		t.Run(strconv.FormatUint(uint64(s.Code), 16), func(t *testing.T) {
			t.Parallel()
			do(t, s)
		})
	}
}

// P24.2: the chapter's example: of height 2 the leaves 0, 1, 2, 3 make 2, 1, 2, 1 sums.
func TestExample(t *testing.T) {
	for _, s := range rows.TreesOf(2, 2) {
		k := plain(s, 1).begin(t)
		sum := 0
		for q, n := range []int{2, 1, 2, 1} {
			sum += n
			if k.tells(); k.w.Made() != sum {
				t.Errorf("P24.2: Made, tree %#x, leaf %v: %v, not %v", s.Code, q, k.w.Made(), sum)
			}
		}
	}
}

// P24.1: of height 2 which leaf's or place's sum each way has, written out; behind them nothing.
func TestFourLeaves(t *testing.T) {
	for _, s := range rows.TreesOf(2, 2) {
		name, keys := rows.Mixed(16, 3), rows.Keys(s, 4)
		part := func(place, word int, texts ...[]byte) []byte {
			return rows.LayerParts(s, name, place, word, texts...)
		}
		four, five, six, seven := part(4, 0x8282, keys[0]), part(5, 0x8282, keys[1]), part(6, 0x8282, keys[2]), part(7, 0x8282, keys[3])
		two, three := part(2, 0x8383, four, five), part(3, 0x8383, six, seven)
		w, e := walk.New(s, name, keys)
		if e != api.OK {
			t.Fatalf("P24.1: New, tree %#x: %v", s.Code, e)
		}
		for q, want := range [][][]byte{{five, three}, {four, three}, {seven, two}, {six, two}} {
			got, way, ok := w.Next()
			if int(got) != q || !ok {
				t.Errorf("P24.1: Next, tree %#x: %v, %v, not %v", s.Code, got, ok, q)
			}
			rows.ExpectWay(t, way, want, "P24.1: Next", s.Code, q)
		}
		if q, way, ok := w.Next(); q != 0 || len(way) != 0 || ok {
			t.Errorf("P24.1: Next, tree %#x, behind the last leaf: %v, %x, %v", s.Code, q, way, ok)
		}
	}
}

// P24.1, P24.3: whole walks tell each leaf in order, with the way that layer 11 tells of it (of height 10 with -short: of some), which leads from its key to the root; and make fewer than twice as many sums as there are leaves, and the tree is high.
func TestWholeWalks(t *testing.T) {
	each(t, 1, 10, func(t *testing.T, s api.Tree) {
		x := plain(s, 5)
		rows.Expect(t, merkle.Root(s, x.name, x.keys), x.root, "P11.1: Root", s.Code)
		k := x.begin(t)
		for q := range x.keys {
			way := k.tells()
			if !testing.Short() || s.H < 10 || q%97 == 0 {
				rows.ExpectWay(t, way, merkle.Way(s, x.name, x.keys, uint32(q)), "P24.3: Next", s.Code, q)
			}
			got, e := merkle.Climb(s, x.name, uint32(q), x.keys[q], way)
			if e != api.OK {
				t.Errorf("P24.3: Climb, tree %#x, leaf %v: %v", s.Code, q, e)
			}
			rows.Expect(t, got, x.root, "P24.3: Climb", s.Code, q)
		}
		if most := 2*rows.Leaves(s) + s.H; k.w.Made() >= most {
			t.Errorf("P24.3: Made, tree %#x: %v, not fewer than %v", s.Code, k.w.Made(), most)
		}
		if all := 2*rows.Leaves(s) - 2; k.w.Made() != all {
			t.Errorf("P24.2: Made, tree %#x: %v, not %v: each sum but the root's once", s.Code, k.w.Made(), all)
		}
		for range 100 {
			k.tells()
		}
		for _, n := range []int{0, 1, -1, s.H, rows.Leaves(s), math.MaxInt, math.MinInt} {
			k.skips(n)
			k.tells()
		}
	})
}

// P24.1: the trees that the tests go through are of these heights, of each four: of both kinds and sizes.
func TestHeights(t *testing.T) {
	count := map[int]int{}
	for _, s := range rows.TreesOf(1, 10) {
		count[s.H]++
	}
	for _, h := range []int{1, 2, 3, 4, 5, 10} {
		if count[h] != rows.SumCount {
			t.Errorf("P24.1: %v trees of the height %v, not %v", count[h], h, rows.SumCount)
		}
	}
}

// manyKeys: sorts of keys that may be, each as what tells the key of a leaf of n: empty, of one byte, of many, alike, with spare room, and sharing memory.
func manyKeys(s api.Tree, n int) map[string]func(q int) []byte {
	long := rows.Mixed(2*api.MaxText, 7)
	return map[string]func(q int) []byte{
		"no keys":               func(q int) []byte { return nil },
		"empty keys":            func(q int) []byte { return []byte{} },
		"every other one empty": func(q int) []byte { return rows.Mixed(q%2*s.N, 8) },
		"the first one empty":   func(q int) []byte { return rows.Mixed(min(q, 1)*s.N, 9) },
		"the last one empty":    func(q int) []byte { return rows.Mixed(min(n-1-q, 1)*s.N, 10) },
		"one byte":              func(q int) []byte { return []byte{byte(q)} },
		"one byte, alike":       func(q int) []byte { return []byte{7} },
		"unlike lengths":        func(q int) []byte { return rows.Mixed(q, 11) },
		"about a block":         func(q int) []byte { return rows.Mixed(3*q+20, 13) },
		"all alike":             func(q int) []byte { return long[:s.N] },
		"pairs alike":           func(q int) []byte { return rows.Mixed(s.N, byte(q/2)) },
		"each as a far one":     func(q int) []byte { return rows.Mixed(s.N, byte(q%max(n/2, 1))) },
		"noughts":               func(q int) []byte { return make([]byte, s.N) },
		"spare room":            func(q int) []byte { return rows.Guarded(rows.Mixed(s.N, byte(q))) },
		"shared memory":         func(q int) []byte { return long[q : q+s.N] },
		"long ones":             func(q int) []byte { return long[q : q+1000+q] },
		"a name of its own":     func(q int) []byte { return slices.Concat(rows.Mixed(16, 14), []byte{0, 0, 0, byte(n + q), 0x82, 0x82}) },
	}
}

// P24.1: trees with keys of all sorts may be, and the walks through them tell their ways.
func TestKeys(t *testing.T) {
	each(t, 1, 5, func(t *testing.T, s api.Tree) {
		n := rows.Leaves(s)
		for what, key := range manyKeys(s, n) {
			keys := make([][]byte, n)
			for q := range keys {
				keys[q] = key(q)
			}
			x := taleOf(s, rows.Mixed(16, 14), keys)
			k := x.begin(t)
			for q := range keys {
				way := k.tells()
				rows.ExpectWay(t, way, merkle.Way(s, x.name, keys, uint32(q)), "P24.3: Next", what, s.Code, q)
			}
			k.ends()
		}
	})
	each(t, 10, 10, func(t *testing.T, s api.Tree) {
		for what, keys := range map[string][][]byte{"no bytes": make([][]byte, 1024), "one byte": rows.Some(1024, 1, 15), "alike": slices.Repeat([][]byte{rows.Mixed(100, 16)}, 1024)} {
			x := taleOf(s, rows.Mixed(16, 17), keys)
			x.begin(t).ends()
			rows.ExpectWay(t, x.ways[341], merkle.Way(s, x.name, keys, 341), "P11.1: Way", what, s.Code)
		}
	})
	long := rows.Mixed(3*api.MaxText+1, 18)
	each(t, 1, 1, func(t *testing.T, s api.Tree) {
		for _, n := range []int{api.MaxText - 1, api.MaxText, api.MaxText + 1, 3 * api.MaxText} {
			taleOf(s, rows.Mixed(16, 19), [][]byte{long[:n], long[1 : n+1]}).begin(t).ends()
		}
	})
}

// P24.1: names of noughts, of ones, with spare room, and one that shares its memory with the keys.
func TestNames(t *testing.T) {
	each(t, 1, 5, func(t *testing.T, s api.Tree) {
		keys := rows.Keys(s, 20)
		for _, name := range [][]byte{make([]byte, 16), bytes.Repeat([]byte{255}, 16), rows.Guarded(rows.Mixed(16, 21)), keys[1][:16], keys[0][s.N-16:]} {
			taleOf(s, name, keys).begin(t).ends()
		}
	})
}

// P24.3: what is told hangs on the name, on each key but the leaf's own, on where each key stands, and on the set.
func TestUnlike(t *testing.T) {
	each(t, 1, 4, func(t *testing.T, s api.Tree) {
		x := plain(s, 22)
		for i := range x.name {
			taleOf(s, rows.Turned(x.name, i), x.keys).allUnlike(t, x, "a byte of the name", i)
		}
		for q := range x.keys {
			turned := slices.Clone(x.keys)
			turned[q] = rows.Turned(turned[q], q%s.N)
			y := taleOf(s, x.name, turned)
			y.begin(t).ends()
			for p := range x.keys {
				for h := range s.H {
					if same := bytes.Equal(x.ways[p][h], y.ways[p][h]); same != (p>>h^1 != q>>h) {
						t.Errorf("P24.3: tree %#x, a byte of the key %v, the way of %v at %v: alike: %v", s.Code, q, p, h, same)
					}
				}
			}
		}
	})
}

// allUnlike tells where a walk tells a sum that another one tells there.
func (x tale) allUnlike(t *testing.T, other tale, what ...any) {
	t.Helper()
	k := x.begin(t)
	for q := range x.keys {
		for h, sum := range k.tells() {
			rows.Unlike(t, sum, other.ways[q][h], "P24.3: Next", what, x.s.Code, q, h)
		}
	}
}
