package merkle_test

import (
	"bytes"
	"math"
	"slices"
	"testing"

	"tearoff/api"
	"tearoff/merkle"
	"tearoff/rows"
)

// climb: where a key and a way lead, where they must lead somewhere.
func climb(t *testing.T, s api.Tree, name []byte, q uint32, key []byte, way [][]byte, what ...any) []byte {
	t.Helper()
	got, e := merkle.Climb(s, name, q, key, way)
	if e != api.OK || len(got) != s.N {
		t.Errorf("P11.2: Climb, %v, tree %#x, leaf %v: %v, %x", what, s.Code, q, e, got)
	}
	return got
}

// refused tells where Climb doesn't answer Arg, and nothing beside it.
func refused(t *testing.T, s api.Tree, name []byte, q uint32, key []byte, way [][]byte, what ...any) {
	t.Helper()
	if got, e := merkle.Climb(s, name, q, key, way); e != api.Arg || len(got) != 0 {
		t.Errorf("P11.2: Climb, %v, %+v, leaf %v, %v sums: %v, %x, not %v", what, s, q, len(way), e, got, api.Arg)
	}
}

// climbed: where a key and a way lead, put together by hand: each bit of the leaf's number tells on which side the way's sum stands.
func climbed(part rows.Parter, t api.Tree, name []byte, q uint32, key []byte, way [][]byte) []byte {
	place := rows.Leaves(t) + int(q)
	sum := part(t, name, place, 0x8282, key)
	for h := range t.H {
		above := place >> (h + 1)
		if q>>h&1 == 0 {
			sum = part(t, name, above, 0x8383, sum, way[h])
		} else {
			sum = part(t, name, above, 0x8383, way[h], sum)
		}
	}
	return sum
}

// expectClimb tells where a key and a way don't lead to where they must.
func expectClimb(t *testing.T, s api.Tree, name []byte, q uint32, key []byte, way [][]byte, what ...any) {
	t.Helper()
	got := climb(t, s, name, q, key, way, what...)
	for _, part := range []rows.Parter{byLayer, byOthers} {
		expect(t, got, climbed(part, s, name, q, key, way), "P11.2: Climb", what, s.Code, q)
	}
}

// P11.2: of height 1 a way has one sum, which stands to the right of the leaf 0, to the left of the leaf 1.
func TestClimbExample(t *testing.T) {
	name, key := rows.Mixed(16, 31), []byte("a key")
	for _, s := range rows.TreesOf(1, 1) {
		beside := rows.Mixed(s.N, 32)
		two, three := byLayer(s, name, 2, 0x8282, key), byLayer(s, name, 3, 0x8282, key)
		expect(t, climb(t, s, name, 0, key, [][]byte{beside}), byLayer(s, name, 1, 0x8383, two, beside), "P11.2: Climb, the left one", s.Code)
		expect(t, climb(t, s, name, 1, key, [][]byte{beside}), byLayer(s, name, 1, 0x8383, beside, three), "P11.2: Climb, the right one", s.Code)
	}
}

// P11.2: ways of every tree, those higher than 10 too, whose sums nobody made: of leaves at their edges, with keys of any length.
func TestClimb(t *testing.T) {
	name, long := rows.Mixed(16, 33), rows.Mixed(api.MaxText+1, 34)
	for _, s := range rows.Trees() {
		way := rows.Some(s.H, s.N, 35)
		noughts, ones := make([][]byte, s.H), make([][]byte, s.H)
		for h := range way {
			noughts[h], ones[h] = make([]byte, s.N), rows.Guarded(bytes.Repeat([]byte{255}, s.N))
		}
		for _, q := range edges(s) {
			expectClimb(t, s, name, uint32(q), rows.Mixed(s.N, 36), way, "a way that nobody made")
			expectClimb(t, s, name, uint32(q), nil, noughts, "noughts")
			expectClimb(t, s, rows.Guarded(name), uint32(q), []byte{}, ones, "ones, spare room behind")
		}
		for _, n := range []int{1, 15, 16, 17, 23, 25, 31, 33, 63, 64, 65, 135, 136, 137, api.MaxText, api.MaxText + 1} {
			expectClimb(t, s, name, uint32(rows.Leaves(s)-1), long[:n], way, "bytes of the key", n)
		}
		expectClimb(t, s, make([]byte, 16), 0, nil, noughts, "noughts, a name of noughts")
		expectClimb(t, s, bytes.Repeat([]byte{255}, 16), uint32(rows.Leaves(s)-1), nil, ones, "ones, a name of ones")
		expectClimb(t, s, name, 0, name, slices.Repeat(way[:1], s.H), "one row for all sums")
	}
}

// P11.2: of low trees every leaf; of the highest ones each bit of the number tells.
func TestClimbLeaves(t *testing.T) {
	name := rows.Mixed(16, 37)
	for _, s := range rows.Trees() {
		key, way := rows.Mixed(s.N, 38), rows.Some(s.H, s.N, 39)
		qs := edges(s)
		if s.H <= 10 {
			qs = all(rows.Leaves(s))
		}
		seen := map[string]int{}
		for _, q := range qs {
			got := climb(t, s, name, uint32(q), key, way)
			expect(t, got, climbed(byOthers, s, name, uint32(q), key, way), "P11.2: Climb", s.Code, q)
			if was, ok := seen[string(got)]; ok {
				t.Errorf("P11.2: Climb, tree %#x: the leaf %v leads where %v does", s.Code, q, was)
			}
			seen[string(got)] = q
		}
	}
}

// P11.2: nothing of leaves beyond the last one: Arg.
func TestClimbNoLeaf(t *testing.T) {
	name := rows.Mixed(16, 40)
	for _, s := range rows.Trees() {
		key, way := rows.Mixed(s.N, 41), rows.Some(s.H, s.N, 42)
		for _, q := range beyond(uint32(rows.Leaves(s))) {
			refused(t, s, name, q, key, way, "beyond")
		}
		expectClimb(t, s, name, uint32(rows.Leaves(s)-1), key, way, "the last leaf")
	}
}

// P11.2: nothing of sets that are none: Arg.
func TestClimbNoTrees(t *testing.T) {
	name := rows.Mixed(16, 43)
	for _, s := range rows.NoTrees() {
		for _, n := range []int{s.N, 24, 32} {
			for _, h := range []int{s.H, 0, 1, 2, 3, 4, 5, 10, 15, 20, 25} {
				if n < 0 || n > 1000 || h < 0 || h > 1000 {
					continue
				}
				refused(t, s, name, 0, rows.Mixed(n, 44), rows.Some(h, n, 45), "no set, bytes of a sum", n)
				refused(t, s, name, 1, nil, rows.Some(h, n, 45), "no set, bytes of a sum", n)
			}
		}
		refused(t, s, name, 0, nil, nil, "no set, no way")
		refused(t, s, nil, math.MaxUint32, nil, nil, "no set, no name, no leaf, no way")
	}
}

// P11.2: nothing but 16 bytes is a name: Arg.
func TestClimbNames(t *testing.T) {
	for _, s := range rows.Trees() {
		key, way := rows.Mixed(s.N, 46), rows.Some(s.H, s.N, 47)
		for _, n := range []int{0, 1, 8, 14, 15, 17, 18, 24, 31, 32, 33, 256, 256 + 16, 1<<16 + 16} {
			refused(t, s, rows.Mixed(n, 48), 0, key, way, "bytes of the name", n)
			refused(t, s, append(make([]byte, 0, n+16), rows.Mixed(n, 48)...), 0, key, way, "bytes of the name, spare room", n)
		}
		refused(t, s, nil, 0, key, way, "no name")
		expectClimb(t, s, rows.Mixed(16, 48), 0, key, way, "16 bytes")
	}
}

// P11.2: nothing of ways of a sum too few, a sum too many, or as many as other trees' have: Arg.
func TestClimbWayCounts(t *testing.T) {
	name := rows.Mixed(16, 49)
	for _, s := range rows.Trees() {
		key, sums := rows.Mixed(s.N, 50), rows.Some(80, s.N, 51)
		for n := range sums {
			if n == s.H {
				continue
			}
			for _, q := range []uint32{0, 1, uint32(rows.Leaves(s) - 1)} {
				refused(t, s, name, q, key, sums[:n], "spare room behind")
				refused(t, s, name, q, key, slices.Clip(sums[:n]), "a way")
			}
		}
		refused(t, s, name, 0, key, nil, "no way")
		refused(t, s, name, 0, key, make([][]byte, s.H), "a way of no sums")
		refused(t, s, name, 0, key, append(slices.Clone(sums[:s.H]), nil), "an empty sum too many")
		refused(t, s, name, 0, key, append([][]byte{nil}, sums[:s.H]...), "an empty sum ahead")
		expectClimb(t, s, name, 0, key, sums[:s.H], "spare room behind")
	}
}

// P11.2: nothing of ways of which one sum, whichever, hasn't N bytes: Arg.
func TestClimbWaySums(t *testing.T) {
	name := rows.Mixed(16, 52)
	for _, s := range rows.Trees() {
		key, way := rows.Mixed(s.N, 53), rows.Some(s.H, s.N, 54)
		for _, n := range []int{0, 1, 16, 23, 24, 25, 31, 32, 33, s.N - 1, s.N + 1, 2 * s.N, 64, 256 + s.N, 1<<16 + s.N} {
			if n == s.N {
				continue
			}
			for h := range way {
				for _, q := range []uint32{0, uint32(rows.Leaves(s) - 1)} {
					refused(t, s, name, q, key, with(way, h, rows.Mixed(n, 55)), "one sum, bytes", h, n)
					refused(t, s, name, q, key, with(way, h, append(make([]byte, 0, n+s.N), rows.Mixed(n, 55)...)), "one sum, bytes, spare room", h, n)
				}
			}
			refused(t, s, name, 0, key, rows.Some(s.H, n, 56), "all sums, bytes", n)
		}
		for h := range s.H - 1 {
			bad := with(with(way, h, way[h][:s.N-1]), h+1, append(bytes.Clone(way[h+1]), 0))
			refused(t, s, name, 0, key, bad, "a byte less, and a byte more", h)
		}
		expectClimb(t, s, name, 0, key, way, "as it is")
	}
}

// P11.2: where all that is handed in is wrong, or two of these, the answer is Arg, too.
func TestClimbAllWrong(t *testing.T) {
	for _, s := range rows.Trees() {
		name, way := rows.Mixed(16, 57), rows.Some(s.H, s.N, 58)
		refused(t, s, name[:15], math.MaxUint32, nil, way[1:], "all wrong")
		refused(t, s, name[:15], 0, nil, way[1:], "the name and the way")
		refused(t, s, name, uint32(rows.Leaves(s)), nil, append(way, nil), "the leaf and the way")
		refused(t, s, nil, uint32(rows.Leaves(s)), nil, way, "the name and the leaf")
		refused(t, s, nil, 0, nil, nil, "nothing")
	}
}

// elsewhere tells where Climb doesn't lead to where it must, or where it leads to the root.
func elsewhere(t *testing.T, s api.Tree, root, name []byte, q int, key []byte, way [][]byte, what ...any) {
	t.Helper()
	got := climb(t, s, name, uint32(q), key, way, what...)
	expect(t, got, climbed(byOthers, s, name, uint32(q), key, way), "P11.2: Climb", what, s.Code, q)
	if bytes.Equal(got, root) {
		t.Errorf("P11.2: Climb, %v, tree %#x, leaf %v: the root", what, s.Code, q)
	}
}

// P11.2: another key, another way, another leaf's number, and another name lead elsewhere.
func TestElsewhere(t *testing.T) {
	for _, s := range rows.TreesOf(1, 10) {
		name, keys := rows.Mixed(16, 59), rows.Keys(s, 60)
		root := merkle.Root(s, name, keys)
		qs := edges(s)
		if s.H == 10 {
			qs = []int{0, 341, 1023}
		}
		for _, q := range qs {
			way := merkle.Way(s, name, keys, uint32(q))
			expect(t, climb(t, s, name, uint32(q), keys[q], way), root, "P11.3: Climb", s.Code, q)
			otherKeys(t, s, root, name, q, keys, way)
			otherWays(t, s, root, name, q, keys[q], way)
			otherLeaves(t, s, root, name, q, keys, way)
			for i := range name {
				elsewhere(t, s, root, rows.Turned(name, i), q, keys[q], way, "a byte of the name", i)
			}
			elsewhere(t, other(s), root, name, q, keys[q], way, "of the other kind")
		}
	}
}

// otherKeys tells where the way of a leaf leads to the root from another key.
func otherKeys(t *testing.T, s api.Tree, root, name []byte, q int, keys, way [][]byte) {
	t.Helper()
	key := keys[q]
	for i := range key {
		elsewhere(t, s, root, name, q, rows.Turned(key, i), way, "a byte of the key", i)
	}
	for _, k := range [][]byte{nil, key[:s.N-1], key[1:], append(bytes.Clone(key), 0), append([]byte{0}, key...), way[0], root, name, keys[q^1], keys[rows.Leaves(s)-1-q]} {
		elsewhere(t, s, root, name, q, k, way, "another key, bytes", len(k))
	}
}

// otherWays tells where a key leads to the root by another way.
func otherWays(t *testing.T, s api.Tree, root, name []byte, q int, key []byte, way [][]byte) {
	t.Helper()
	for h := range way {
		for i := range way[h] {
			elsewhere(t, s, root, name, q, key, with(way, h, rows.Turned(way[h], i)), "a byte of the way", h, i)
		}
		for g := range h {
			elsewhere(t, s, root, name, q, key, with(with(way, h, way[g]), g, way[h]), "two sums in each other's place", g, h)
			elsewhere(t, s, root, name, q, key, with(way, h, way[g]), "one sum twice", g, h)
		}
		elsewhere(t, s, root, name, q, key, with(way, h, make([]byte, s.N)), "a sum of noughts", h)
		elsewhere(t, s, root, name, q, key, with(way, h, root), "the root itself", h)
	}
}

// otherLeaves tells where a key and a way lead to the root by another leaf's number, or a key by another leaf's way.
func otherLeaves(t *testing.T, s api.Tree, root, name []byte, q int, keys, way [][]byte) {
	t.Helper()
	for _, p := range edges(s) {
		if p == q {
			continue
		}
		elsewhere(t, s, root, name, p, keys[q], way, "another leaf's number")
		elsewhere(t, s, root, name, p, keys[p], way, "another leaf's number and key")
		elsewhere(t, s, root, name, p, keys[q], merkle.Way(s, name, keys, uint32(p)), "another leaf's number and way")
		if p != q^1 {
			elsewhere(t, s, root, name, q, keys[q], merkle.Way(s, name, keys, uint32(p)), "another leaf's way")
		}
	}
}

// P11.2: of keys that are alike each leads to the root by its own number and way alone.
func TestElsewhereAlike(t *testing.T) {
	for _, s := range rows.TreesOf(1, 5) {
		name, keys := rows.Mixed(16, 61), slices.Repeat([][]byte{rows.Mixed(s.N, 62)}, rows.Leaves(s))
		root := merkle.Root(s, name, keys)
		for q := range keys {
			way := merkle.Way(s, name, keys, uint32(q))
			for p := range keys {
				if p == q {
					expect(t, climb(t, s, name, uint32(p), keys[p], way), root, "P11.3: Climb, keys alike", s.Code, p)
				} else {
					elsewhere(t, s, root, name, p, keys[p], way, "keys alike")
				}
			}
		}
	}
}
