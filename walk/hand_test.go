package walk_test

import (
	"crypto/sha256"
	"crypto/sha3"
	"testing"

	"tearoff/api"
	"tearoff/rows"
	"tearoff/walk"
)

// byOthers are Go's own sums.
var byOthers = rows.PartsBy(sha256.Sum256, sha3.SumSHAKE256)

// tale is a tree, and, put together by hand, what a walk through it must tell: the ways of all leaves, and where they lead.
type tale struct {
	s    api.Tree
	name []byte
	keys [][]byte
	ways [][][]byte
	root []byte
}

// taleOf: that of a tree.
func taleOf(s api.Tree, name []byte, keys [][]byte) tale {
	places := byOthers.Places(s, name, keys)
	x := tale{s: s, name: name, keys: keys, root: places[1]}
	for q := range keys {
		x.ways = append(x.ways, rows.Way(places, q))
	}
	return x
}

// plain: that of a tree with mixed keys, which start marks.
func plain(s api.Tree, start byte) tale {
	return taleOf(s, rows.Mixed(16, start), rows.Keys(s, start+1))
}

// fresh: how many sums of the way of a leaf have another place than in the way ahead; of the first leaf all.
func (x tale) fresh(q int) int {
	n := 0
	for h := range x.s.H {
		if q == 0 || q>>h != (q-1)>>h {
			n++
		}
	}
	return n
}

// hike is a walk that is gone, and by hand which leaf comes next, and how many sums were made.
type hike struct {
	*testing.T
	tale
	w          *walk.Walk
	next, made int
}

// begin: a new walk, which must be.
func (x tale) begin(t *testing.T) *hike {
	t.Helper()
	w, e := walk.New(x.s, x.name, x.keys)
	if e != api.OK || w == nil {
		t.Fatalf("P24.1: New, tree %#x, %v keys: %v, %v", x.s.Code, len(x.keys), w, e)
	}
	k := &hike{T: t, tale: x, w: w}
	k.counts("New")
	return k
}

// counts tells where not as many sums were made as must be.
func (k *hike) counts(what ...any) {
	k.Helper()
	if got := k.w.Made(); got != k.made {
		k.Errorf("P24.2: Made, tree %#x, behind %v, the next leaf being %v: %v, not %v", k.s.Code, what, k.next, got, k.made)
	}
}

// left: how many leaves come yet.
func (k *hike) left() int { return len(k.keys) - k.next }

// past: a leaf more is told, or gone past.
func (k *hike) past() {
	k.made += k.fresh(k.next)
	k.next++
}

// tells asks for the next leaf, and tells where it, its way, or how many sums were made, isn't what must be.
func (k *hike) tells() [][]byte {
	k.Helper()
	q, way, ok := k.w.Next()
	if k.left() == 0 {
		if q != 0 || len(way) != 0 || ok {
			k.Errorf("P24.1: Next, tree %#x, behind the last leaf: %v, %x, %v", k.s.Code, q, way, ok)
		}
	} else {
		if int(q) != k.next || !ok {
			k.Errorf("P24.1: Next, tree %#x: %v, %v, not %v", k.s.Code, q, ok, k.next)
		}
		rows.ExpectWay(k, way, k.ways[k.next], "P24.1: Next", k.s.Code, k.next)
		k.past()
	}
	k.counts("Next")
	return way
}

// skips goes past leaves, and tells where it weren't as many, or not as many sums were made, as must be.
func (k *hike) skips(n int) {
	k.Helper()
	want := n
	if n < 0 {
		want = 0
	} else if n > k.left() {
		want = k.left()
	}
	if got := k.w.Skip(n); got != want {
		k.Errorf("P24.1: Skip(%v), tree %#x, the next leaf being %v of %v: %v, not %v", n, k.s.Code, k.next, len(k.keys), got, want)
	}
	for range want {
		k.past()
	}
	k.counts("Skip", n)
}

// goes goes on to a leaf, by Next, or by Skip.
func (k *hike) goes(to int, bySkip bool) {
	k.Helper()
	if bySkip {
		k.skips(to - k.next)
	}
	for k.next < to {
		k.tells()
	}
}

// ends tells all leaves that come yet, and asks for more behind the last one.
func (k *hike) ends() {
	k.Helper()
	for k.left() > 0 {
		k.tells()
	}
	for range 3 {
		k.tells()
	}
}
