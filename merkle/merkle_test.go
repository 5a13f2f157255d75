package merkle_test

import (
	"bytes"
	"crypto/sha256"
	"crypto/sha3"
	"math"
	"slices"
	"strconv"
	"testing"

	"tearoff/api"
	"tearoff/chain"
	"tearoff/merkle"
	"tearoff/rows"
)

// byLayer is layer 9, byOthers are Go's own sums.
var (
	byLayer  = rows.Parter(rows.LayerParts)
	byOthers = rows.PartsBy(sha256.Sum256, sha3.SumSHAKE256)
)

// with: a list with another row at a place, in memory of its own.
func with(list [][]byte, at int, b []byte) [][]byte {
	out := slices.Clone(list)
	out[at] = b
	return out
}

// expect tells where bytes aren't those that they must be.
func expect(t *testing.T, got, want []byte, what ...any) {
	t.Helper()
	if len(want) == 0 || !bytes.Equal(got, want) {
		t.Errorf("%v: %v bytes, %x, not %v, %x", what, len(got), got, len(want), want)
	}
}

// expectTree tells where a tree may not be, where its root or the way of one of these leaves isn't as put together by hand, or where a way doesn't lead to the root.
func expectTree(t *testing.T, s api.Tree, name []byte, keys [][]byte, qs []int, what string) {
	t.Helper()
	if !merkle.May(s, name, keys) {
		t.Errorf("P11.1: not May, %v, tree %#x", what, s.Code)
	}
	root := merkle.Root(s, name, keys)
	layers, others := byLayer.Places(s, name, keys), byOthers.Places(s, name, keys)
	expect(t, root, layers[1], "P11.1: Root", what, s.Code)
	expect(t, root, others[1], "P11.1: Root", what, s.Code)
	for _, q := range qs {
		got := merkle.Way(s, name, keys, uint32(q))
		rows.ExpectWay(t, got, rows.Way(layers, q), "P11.1: Way", what, s.Code, q)
		rows.ExpectWay(t, got, rows.Way(others, q), "P11.1: Way", what, s.Code, q)
		expect(t, climb(t, s, name, uint32(q), keys[q], got, what), root, "P11.3: Climb", what, s.Code, q)
	}
}

// expectNone tells where a tree may be, or where something comes of it.
func expectNone(t *testing.T, s api.Tree, name []byte, keys [][]byte, what ...any) {
	t.Helper()
	if merkle.May(s, name, keys) {
		t.Errorf("P11.1: May, %v, %+v", what, s)
	}
	if got := merkle.Root(s, name, keys); len(got) != 0 {
		t.Errorf("P11.1: Root, %v, %+v: %x, not nothing", what, s, got)
	}
	for _, q := range []uint32{0, 1, math.MaxUint32} {
		noWay(t, s, name, keys, q, what...)
	}
}

// noWay tells where a leaf has a way.
func noWay(t *testing.T, s api.Tree, name []byte, keys [][]byte, q uint32, what ...any) {
	t.Helper()
	if got := merkle.Way(s, name, keys, q); len(got) != 0 {
		t.Errorf("P11.1: Way, %v, %+v, leaf %v: %x, not nothing", what, s, q, got)
	}
}

// all: the numbers below n.
func all(n int) []int {
	out := make([]int, n)
	for i := range out {
		out[i] = i
	}
	return out
}

// edges: the first and the last leaves of a tree, those in its middle, and those with a single bit.
func edges(s api.Tree) []int {
	n := rows.Leaves(s)
	out := []int{0, 1, n/2 - 1, n / 2, n - 2, n - 1}
	for h := range s.H {
		out = append(out, 1<<h, n-1-1<<h)
	}
	slices.Sort(out)
	return slices.Compact(out)
}

// P11.1: the chapter's example: of height 1 the root is the part (1, 0x8383) of the sums of the places 2 and 3.
func TestExample(t *testing.T) {
	name, left, right := rows.Mixed(16, 1), []byte("the left key"), []byte("the right one")
	for _, s := range rows.TreesOf(1, 1) {
		keys := [][]byte{left, right}
		two := chain.Part(s.Kind, s.N, name, 2, 0x8282, left)
		three := chain.Part(s.Kind, s.N, name, 3, 0x8282, right)
		expect(t, merkle.Root(s, name, keys), chain.Part(s.Kind, s.N, name, 1, 0x8383, two, three), "P11.1: Root, of height 1", s.Code)
		rows.ExpectWay(t, merkle.Way(s, name, keys, 0), [][]byte{three}, "P11.1: Way, the left one", s.Code)
		rows.ExpectWay(t, merkle.Way(s, name, keys, 1), [][]byte{two}, "P11.1: Way, the right one", s.Code)
	}
}

// P11.1: of height 2 the leaves have the places 4 to 7, those above 2 and 3; of each way the sum is first that lies below the same place as the leaf.
func TestFourLeaves(t *testing.T) {
	name := rows.Mixed(16, 2)
	for _, s := range rows.TreesOf(2, 2) {
		keys := rows.Keys(s, 3)
		part := func(place uint32, d uint16, texts ...[]byte) []byte {
			return chain.Part(s.Kind, s.N, name, place, d, texts...)
		}
		four, five, six, seven := part(4, 0x8282, keys[0]), part(5, 0x8282, keys[1]), part(6, 0x8282, keys[2]), part(7, 0x8282, keys[3])
		two, three := part(2, 0x8383, four, five), part(3, 0x8383, six, seven)
		expect(t, merkle.Root(s, name, keys), part(1, 0x8383, two, three), "P11.1: Root, of height 2", s.Code)
		for q, want := range [][][]byte{{five, three}, {four, three}, {seven, two}, {six, two}} {
			rows.ExpectWay(t, merkle.Way(s, name, keys, uint32(q)), want, "P11.1: Way, of height 2", s.Code, q)
		}
	}
}

// P11.1, P11.3: trees of both kinds and sizes, of all heights that may be, with all leaves (of height 10 with -short: some of them).
func TestTrees(t *testing.T) {
	for _, s := range rows.TreesOf(1, 10) {
		t.Run(strconv.FormatUint(uint64(s.Code), 16), func(t *testing.T) {
			t.Parallel()
			qs := all(rows.Leaves(s))
			if testing.Short() && s.H == 10 {
				qs = edges(s)
			}
			keys := rows.Keys(s, 4)
			expectTree(t, s, rows.Mixed(16, 5), keys, qs, "as they come")
			expectTree(t, s, rows.Guarded(make([]byte, 16)), keys, edges(s), "a name of noughts")
			expectTree(t, s, bytes.Repeat([]byte{255}, 16), keys, edges(s), "a name of ones")
		})
	}
}

// P11.1: the trees that the tests go through are of these heights, of each four: of both kinds and sizes.
func TestHeights(t *testing.T) {
	count := map[int]int{}
	for _, s := range rows.TreesOf(1, 10) {
		count[s.H]++
	}
	for _, h := range []int{1, 2, 3, 4, 5, 10} {
		if count[h] != 4 {
			t.Errorf("P11.1: %v trees of the height %v, not 4", count[h], h)
		}
	}
}

// P11.1: keys may be empty, of unlike lengths, alike, longer than a text may be, with spare room, and share memory.
func TestKeys(t *testing.T) {
	name, long := rows.Mixed(16, 6), rows.Mixed(4*api.MaxText, 7)
	for _, s := range rows.TreesOf(1, 5) {
		n := rows.Leaves(s)
		for what, key := range map[string]func(q int) []byte{
			"no keys":                 func(q int) []byte { return nil },
			"empty keys":              func(q int) []byte { return []byte{} },
			"every other one empty":   func(q int) []byte { return rows.Mixed(q%2*s.N, 8) },
			"the first one empty":     func(q int) []byte { return rows.Mixed(min(q, 1)*s.N, 9) },
			"the last one empty":      func(q int) []byte { return rows.Mixed(min(n-1-q, 1)*s.N, 10) },
			"unlike lengths":          func(q int) []byte { return rows.Mixed(q, 11) },
			"lengths about a sum's":   func(q int) []byte { return rows.Mixed(s.N-n/2+q, 12) },
			"lengths about a block":   func(q int) []byte { return rows.Mixed(3*q+20, 13) },
			"one byte":                func(q int) []byte { return []byte{byte(q)} },
			"all alike":               func(q int) []byte { return rows.Mixed(s.N, 14) },
			"noughts":                 func(q int) []byte { return make([]byte, s.N) },
			"pairs alike":             func(q int) []byte { return rows.Mixed(s.N, byte(q/2)) },
			"each alike to a far one": func(q int) []byte { return rows.Mixed(s.N, byte(q%max(n/2, 1))) },
			"spare room":              func(q int) []byte { return rows.Guarded(rows.Mixed(s.N, byte(q))) },
			"shared memory":           func(q int) []byte { return long[q : q+s.N] },
			"the name":                func(q int) []byte { return name },
			"names of sums":           func(q int) []byte { return slices.Concat(name, []byte{0, 0, 0, byte(n + q), 0x82, 0x82}) },
		} {
			keys := make([][]byte, n)
			for q := range keys {
				keys[q] = key(q)
			}
			expectTree(t, s, name, keys, all(n), what)
		}
	}
	for _, s := range rows.TreesOf(1, 1) {
		for _, n := range []int{api.MaxText - 1, api.MaxText, api.MaxText + 1, 3 * api.MaxText} {
			expectTree(t, s, name, [][]byte{long[:n], long[1 : n+1]}, []int{0, 1}, "long keys")
		}
	}
}

// P11.1: nothing but 16 bytes is a name.
func TestNames(t *testing.T) {
	lengths := []int{256, 256 + 16, 1 << 16, 1<<16 + 16}
	for n := range 80 {
		lengths = append(lengths, n)
	}
	for _, s := range rows.TreesOf(1, 5) {
		keys := rows.Keys(s, 15)
		for _, n := range lengths {
			if n == 16 {
				expectTree(t, s, rows.Mixed(n, 16), keys, []int{0}, "16 bytes")
				expectTree(t, s, rows.Guarded(rows.Mixed(n, 16)), keys, []int{0}, "16 bytes, spare room")
				continue
			}
			expectNone(t, s, rows.Mixed(n, 16), keys, "bytes of the name", n)
			expectNone(t, s, append(make([]byte, 0, n+16), rows.Mixed(n, 16)...), keys, "bytes of the name, spare room", n)
		}
		expectNone(t, s, nil, keys, "no name")
	}
	for _, s := range rows.TreesOf(10, 10) {
		keys := rows.Keys(s, 15)
		for _, n := range []int{0, 15, 17, 32} {
			expectNone(t, s, rows.Mixed(n, 16), keys, "bytes of the name", n)
		}
	}
}

// P11.1: nothing of a key too few, a key too many, no keys at all, or as many as other trees have.
func TestKeyCounts(t *testing.T) {
	name := rows.Mixed(16, 17)
	for _, s := range rows.TreesOf(1, 10) {
		n := rows.Leaves(s)
		keys := rows.Some(1<<11+1, 4, 18)
		for _, count := range []int{0, 1, 2, 3, 4, 7, 8, 9, 16, 32, 33, s.H, s.N, n / 2, n - 2, n - 1, n + 1, n + 2, 3 * n / 2, 2*n - 1, 2 * n, min(n+256, 1<<11), 1023, 1025, 1 << 11, 1<<11 + 1} {
			if count == n {
				continue
			}
			expectNone(t, s, name, keys[:count], "keys, spare room behind", count)
			expectNone(t, s, name, slices.Clip(keys[:count]), "keys", count)
		}
		expectNone(t, s, name, nil, "no keys")
		expectNone(t, s, name, make([][]byte, n-1), "a key too few, all empty")
		expectNone(t, s, name, make([][]byte, n+1), "a key too many, all empty")
		expectTree(t, s, name, keys[:n], []int{0, n - 1}, "as many keys as leaves, spare room behind")
		expectTree(t, s, name, slices.Clip(keys[:n]), []int{0, n - 1}, "as many keys as leaves")
	}
}

// P11.1: nothing of trees higher than 10, even of as many keys as they have leaves. (Of height 25 with fewer: so many take much memory.)
func TestTooHigh(t *testing.T) {
	name := rows.Mixed(16, 19)
	few := rows.Some(1<<10, 24, 20)
	for _, s := range rows.TreesOf(11, 25) {
		for _, n := range []int{0, 1, 2, 32, 1 << 10} {
			expectNone(t, s, name, few[:n], "keys", n)
		}
		if s.H <= 20 {
			expectNone(t, s, name, make([][]byte, rows.Leaves(s)), "as many keys as leaves")
			expectNone(t, s, name, make([][]byte, rows.Leaves(s)+1), "a key too many")
		}
	}
}

// P11.1: nothing of sets that are none, those that differ from one in a single number among them.
func TestNoTrees(t *testing.T) {
	name, keys := rows.Mixed(16, 21), rows.Some(1<<10, 24, 22)
	for _, s := range rows.NoTrees() {
		if slices.Contains(rows.Trees(), s) {
			t.Fatalf("%+v is a set", s)
		}
		for _, h := range []int{0, 1, 2, 3, 4, 5, 10} {
			expectNone(t, s, name, keys[:1<<h], "no set, keys", 1<<h)
		}
		expectNone(t, s, name, nil, "no set, no keys")
		expectNone(t, s, nil, nil, "no set, no name, no keys")
	}
}

// P11.1: nothing of leaves beyond the last one, though their numbers wrap, or end, as others do; the root stays.
func TestNoLeaf(t *testing.T) {
	name := rows.Mixed(16, 23)
	for _, s := range rows.TreesOf(1, 10) {
		n, keys := uint32(rows.Leaves(s)), rows.Keys(s, 24)
		for _, q := range beyond(n) {
			noWay(t, s, name, keys, q, "beyond")
		}
		expectTree(t, s, name, keys, edges(s), "leaves at the edges")
	}
}

// beyond: numbers that no leaf of n has: just beyond the last one, and far above.
func beyond(n uint32) []uint32 {
	out := []uint32{n, n + 1, n + 2, n + n/2, 2*n - 1, 2 * n, 3 * n, 1<<31 + n - 1, -n, -n - 1, -n + 1, -n - n, math.MaxUint32 - 1, math.MaxUint32}
	for bits := range 32 {
		if q := uint32(1) << bits; q >= n {
			out = append(out, q, q+1, q+n-1)
		}
	}
	return out
}

// P11.1: the root hangs on each byte of the name and of each key, on where each key stands, and on the set.
func TestUnlike(t *testing.T) {
	for _, s := range rows.TreesOf(1, 4) {
		name, keys := rows.Mixed(16, 25), rows.Keys(s, 26)
		seen := map[string][]any{}
		add := func(s api.Tree, name []byte, keys [][]byte, what ...any) {
			got := merkle.Root(s, name, keys)
			expect(t, got, byOthers.Places(s, name, keys)[1], "P11.1: Root", what, s.Code)
			if was := seen[string(got)]; was != nil {
				t.Errorf("P11.1: Root, tree %#x: %v is as %v", s.Code, what, was)
			}
			seen[string(got)] = what
		}
		add(s, name, keys, "as it is")
		for i := range name {
			add(s, rows.Turned(name, i), keys, "a byte of the name", i)
		}
		for q := range keys {
			for i := range keys[q] {
				add(s, name, with(keys, q, rows.Turned(keys[q], i)), "a byte of a key", q, i)
			}
			add(s, name, with(keys, q, nil), "no key", q)
			add(s, name, with(keys, q, append(bytes.Clone(keys[q]), 0)), "a key with a byte more", q)
			if q > 0 {
				add(s, name, with(with(keys, q, keys[0]), 0, keys[q]), "two keys in each other's place", q)
			}
		}
		add(api.Tree{Code: other(s).Code, Kind: other(s).Kind, N: s.N, H: s.H}, name, keys, "of the other kind")
	}
}

// other: the tree of the other kind, of the same size and height.
func other(s api.Tree) api.Tree {
	for _, x := range rows.Trees() {
		if x.Kind != s.Kind && x.N == s.N && x.H == s.H {
			return x
		}
	}
	panic("no tree of the other kind")
}
