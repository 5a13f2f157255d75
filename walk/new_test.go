package walk_test

import (
	"slices"
	"testing"

	"tearoff/api"
	"tearoff/rows"
	"tearoff/walk"
)

// refused tells where New doesn't answer Arg, and no walk.
func refused(t *testing.T, s api.Tree, name []byte, keys [][]byte, what ...any) {
	t.Helper()
	if w, e := walk.New(s, name, keys); e != api.Arg || w != nil {
		t.Errorf("P24.1: New, %v, %+v, %v bytes of the name, %v keys: a walk: %v, %v, not %v", what, s, len(name), len(keys), w != nil, e, api.Arg)
	}
}

// P24.1: no walk through trees that are none of the sets: of another code, height, kind or size than the set's.
func TestNewNoTrees(t *testing.T) {
	name, keys := rows.Mixed(16, 23), rows.Some(1<<10, 24, 24)
	for _, s := range rows.NoTrees() {
		if slices.Contains(rows.Trees(), s) {
			t.Fatalf("%+v is a set", s)
		}
		for _, h := range []int{0, 1, 2, 3, 4, 5, 10} {
			refused(t, s, name, keys[:1<<h], "no set")
		}
		refused(t, s, name, nil, "no set, no keys")
		refused(t, s, nil, nil, "no set, no name, no keys")
	}
}

// P24.1: no walk through trees higher than 10, even of as many keys as they have leaves. (Of height 25 with fewer: so many take much memory.)
func TestNewTooHigh(t *testing.T) {
	name := rows.Mixed(16, 25)
	few := rows.Some(1<<10, 24, 26)
	for _, s := range rows.TreesOf(11, 25) {
		for _, n := range []int{0, 1, 2, 32, 1 << 10} {
			refused(t, s, name, few[:n], "too high")
		}
		if s.H <= 20 {
			refused(t, s, name, make([][]byte, rows.Leaves(s)), "too high, as many keys as leaves")
		}
	}
}

// P24.1: no walk with a name of other than 16 bytes, whatever lies behind it.
func TestNewNames(t *testing.T) {
	for _, s := range rows.TreesOf(1, 10) {
		keys := rows.Keys(s, 27)
		for _, b := range rows.Wrong(16) {
			refused(t, s, b, keys, "another name")
		}
		for _, n := range []int{0, 1, 8, 14, 15, 17, 18, 24, 32, 33, 256, 1<<16 + 16} {
			refused(t, s, rows.Mixed(n, 28), keys, "another name")
			refused(t, s, append(make([]byte, 0, n+16), rows.Mixed(n, 28)...), keys, "another name, spare room")
		}
		refused(t, s, nil, keys, "no name")
		taleOf(s, rows.Mixed(16, 28), keys).begin(t).tells()
	}
}

// P24.1: no walk with no keys, a key too few, a key too many, or as many as other trees have.
func TestNewKeyCounts(t *testing.T) {
	name, keys := rows.Mixed(16, 29), rows.Some(1<<11+1, 4, 30)
	for _, s := range rows.TreesOf(1, 10) {
		n := rows.Leaves(s)
		for _, count := range []int{0, 1, 2, 3, 4, 7, 8, 9, 16, 32, 33, s.H, s.N, n / 2, n - 2, n - 1, n + 1, n + 2, 3 * n / 2, 2*n - 1, 2 * n, n + 256, 1023, 1024, 1025, 1 << 11, 1<<11 + 1} {
			if count == n {
				continue
			}
			refused(t, s, name, keys[:count], "spare room behind")
			refused(t, s, name, slices.Clip(keys[:count]), "other keys")
		}
		refused(t, s, name, nil, "no keys")
		refused(t, s, name, [][]byte{}, "no keys")
		refused(t, s, name, make([][]byte, n-1), "a key too few, all empty")
		refused(t, s, name, make([][]byte, n+1), "a key too many, all empty")
		refused(t, s, name[:15], keys[:n-1], "the name and the keys")
		taleOf(s, name, keys[:n]).begin(t).tells()
		taleOf(s, name, slices.Clip(keys[:n])).begin(t).tells()
	}
}

// P24.1: a refused New leaves nothing behind, neither for other walks nor for one that is gone.
func TestNewAfterRefused(t *testing.T) {
	for _, s := range rows.TreesOf(1, 5) {
		x := plain(s, 31)
		k := x.begin(t)
		for k.left() > 0 {
			refused(t, s, x.name[:15], x.keys, "a short name")
			refused(t, s, x.name, x.keys[1:], "a key too few")
			refused(t, api.Tree{}, nil, nil, "nothing")
			k.tells()
		}
		x.begin(t).ends()
		k.ends()
	}
}
