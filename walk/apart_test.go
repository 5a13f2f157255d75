package walk_test

import (
	"bytes"
	"math/rand/v2"
	"slices"
	"testing"

	"tearoff/api"
	"tearoff/rows"
	"tearoff/walk"
)

// room is what is handed in to New, with spare room behind the name, behind each key, and behind the list of keys.
type room struct {
	name []byte
	full [][]byte
	n    int
}

// roomFor: that of a tale, of which it keeps nothing.
func roomFor(x tale) room {
	r := room{name: rows.Guarded(x.name), n: len(x.keys)}
	for _, key := range append(slices.Clone(x.keys), rows.Some(3, 5, 47)...) {
		r.full = append(r.full, rows.Guarded(key))
	}
	return r
}

// text: all that is in it.
func (r room) text() string {
	out := rows.Full(r.name)
	for _, key := range r.full {
		out += rows.Full(key) + "\n"
	}
	return out
}

// over writes all of it over: each byte, and then the list.
func (r room) over() {
	rows.Flip(r.name[:cap(r.name)])
	for i, key := range r.full {
		rows.Flip(key[:cap(key)])
		r.full[i] = []byte("another key")
	}
}

// begin: a new walk, of what is in the room.
func (r room) begin(t *testing.T, x tale) *hike {
	t.Helper()
	is := x
	is.name, is.keys = r.name, r.full[:r.n]
	k := is.begin(t)
	k.tale = x
	return k
}

// P24.1: what is handed in to New stays as it was, its spare room too, the list also, whatever the walk does.
func TestHandedInStays(t *testing.T) {
	for _, s := range rows.TreesOf(1, 10) {
		x := plain(s, 48)
		r := roomFor(x)
		was, list := r.text(), slices.Clone(r.full)
		k := r.begin(t, x)
		k.tells()
		k.skips(2)
		k.ends()
		refused(t, s, r.name[:15], r.full[:r.n], "a short name")
		refused(t, s, r.name, r.full[:r.n-1], "a key too few")
		if r.text() != was {
			t.Errorf("P24.1: tree %#x: what is handed in is changed", s.Code)
		}
		for i := range list {
			if len(r.full[i]) != len(list[i]) || &r.full[i][0] != &list[i][0] {
				t.Errorf("P24.1: tree %#x: the place %v of the list is changed", s.Code, i)
			}
		}
	}
}

// P24.1: what is handed in to New may be written over behind it, at once or later: what is told stays.
func TestHandedInWrittenOver(t *testing.T) {
	for _, s := range rows.TreesOf(1, 10) {
		x := plain(s, 50)
		for _, from := range []int{0, 1, rows.Leaves(s) / 2, rows.Leaves(s) - 1} {
			for _, bySkip := range []bool{false, true} {
				r := roomFor(x)
				k := r.begin(t, x)
				k.goes(from, bySkip)
				r.over()
				k.tells()
				k.skips(1)
				k.ends()
			}
		}
	}
}

// P24.1: what Next told may be written over, rows, their spare room, and the list: what is told behind that stays.
func TestToldWrittenOver(t *testing.T) {
	for _, s := range rows.TreesOf(1, 10) {
		x := plain(s, 52)
		k := x.begin(t)
		for k.left() > 0 {
			way := k.tells()
			for _, sum := range way {
				rows.Flip(sum[:cap(sum)])
			}
			way = way[:cap(way)]
			for i := range way {
				way[i] = []byte("another sum")
			}
		}
		k.ends()
		rows.ExpectWay(t, x.keys, rows.Keys(s, 53), "P24.1: the keys, ways written over", s.Code)
		rows.Expect(t, x.name, rows.Mixed(16, 52), "P24.1: the name, ways written over", s.Code)
		x.begin(t).ends()
	}
}

// P24.1: what Next told stays, whatever the walk, or another one, tells and goes past since.
func TestToldStays(t *testing.T) {
	for _, s := range rows.TreesOf(1, 10) {
		x := plain(s, 54)
		k := x.begin(t)
		var told [][][]byte
		for k.left() > 0 {
			told = append(told, k.tells())
		}
		k.ends()
		x.begin(t).ends()
		for q, way := range told {
			rows.ExpectWay(t, way, x.ways[q], "P24.1: Next, later", s.Code, q)
		}
	}
}

// P24.1: no sum of a way shares its memory with another one of it, with what was handed in, or with those of other walks.
func TestToldApart(t *testing.T) {
	for _, s := range rows.TreesOf(1, 4) {
		in := append([][]byte{rows.Mixed(16, 56)}, rows.Keys(s, 57)...)
		for q := range rows.Leaves(s) {
			how := rows.ApartList(func(in [][]byte) [][]byte {
				w, e := walk.New(s, in[0], in[1:])
				if e != api.OK || w.Skip(q) != q {
					t.Fatalf("P24.1: New, Skip, tree %#x, leaf %v: %v", s.Code, q, e)
				}
				_, way, _ := w.Next()
				return way
			}, in...)
			if how != "" {
				t.Errorf("P24.1: Next, tree %#x, leaf %v: %v", s.Code, q, how)
			}
		}
	}
}

// P24.1: of one walk, a sum that two ways have is told in memory of its own each time.
func TestSumsToldTwice(t *testing.T) {
	for _, s := range rows.TreesOf(2, 10) {
		x := plain(s, 58)
		k := x.begin(t)
		ahead := k.tells()
		for k.left() > 0 {
			q := k.next
			way := k.tells()
			for h, sum := range ahead {
				rows.Flip(sum[:cap(sum)])
				if !bytes.Equal(way[h], x.ways[q][h]) {
					t.Errorf("P24.1: Next, tree %#x, leaf %v: the sum %v is that told ahead", s.Code, q, h)
				}
			}
			ahead = way
		}
	}
}

// turns goes walks in turns that a row of bytes tells.
func turns(row []byte, walks ...*hike) {
	for _, c := range row {
		walks[int(c)%len(walks)].does(c / byte(len(walks)) % 5)
	}
	for _, k := range walks {
		k.ends()
	}
}

// P24.1, P24.2: two walks through one tree, gone in turns, tell the same as one alone.
func TestTwoThroughOne(t *testing.T) {
	each(t, 1, 10, func(t *testing.T, s api.Tree) {
		x := plain(s, 60)
		one, two := x.begin(t), x.begin(t)
		for one.left() > 0 {
			one.tells()
			two.tells()
		}
		one.ends()
		two.ends()
		one, two = x.begin(t), x.begin(t)
		one.skips(rows.Leaves(s) - 1)
		two.tells()
		one.tells()
		two.ends()
		m := rand.New(rand.NewPCG(24, uint64(s.Code)+3))
		for range 5 {
			turns(rows.MixedRow(m, 2*rows.Leaves(s)), x.begin(t), x.begin(t))
		}
	})
}

// P24.1, P24.2: walks through unlike trees, gone in turns, likewise: of other keys, of another name, of the other kind, of another size, of another height.
func TestWalksThroughUnlike(t *testing.T) {
	m := rand.New(rand.NewPCG(24, 4))
	all := rows.TreesOf(1, 5)
	for i, s := range all {
		x, y := plain(s, 62), plain(s, 64)
		z := taleOf(s, y.name, x.keys)
		for range 5 {
			turns(rows.MixedRow(m, 2*rows.Leaves(s)), x.begin(t), y.begin(t), z.begin(t))
		}
		for _, other := range all[i:] {
			turns(rows.MixedRow(m, 2*rows.Leaves(s)), x.begin(t), plain(other, 62).begin(t))
		}
	}
}

// P24.1, P24.2: walks gone at the same time through one tree, of one name and one list of keys, tell the same as one alone.
func TestWalksAtOnce(t *testing.T) {
	x := plain(rows.TreesOf(5, 5)[0], 66)
	for i := range 8 {
		t.Run("", func(t *testing.T) {
			t.Parallel()
			for range 20 {
				k := x.begin(t)
				k.skips(i)
				k.ends()
			}
		})
	}
}

// P24.2: Made, asked for ever so often, and Changes, change nothing.
func TestMadeChangesNothing(t *testing.T) {
	for _, s := range rows.TreesOf(1, 5) {
		k := plain(s, 68).begin(t)
		for k.left() > 0 {
			for q := range uint32(5) {
				k.counts("Made")
				walk.Changes(q)
			}
			k.tells()
		}
		k.counts("Made")
		k.ends()
	}
}
