package merkle_test

import (
	"bytes"
	"slices"
	"testing"

	"tearoff/api"
	"tearoff/merkle"
	"tearoff/rows"
)

// P11.1, P11.2: a call that finds something wrong leaves nothing behind, and a call tells the same each time.
func TestAfterRefused(t *testing.T) {
	name := rows.Mixed(16, 71)
	for _, s := range rows.TreesOf(1, 5) {
		keys := rows.Keys(s, 72)
		places := byOthers.Places(s, name, keys)
		for range 2 {
			for q := range keys {
				expectNone(t, s, name[:15], keys, "a short name")
				expect(t, merkle.Root(s, name, keys), places[1], "P11.1: Root, behind one that may not be", s.Code)
				expectNone(t, s, name, keys[1:], "a key too few")
				rows.ExpectWay(t, merkle.Way(s, name, keys, uint32(q)), rows.Way(places, q), "P11.1: Way, behind one that may not be", s.Code, q)
				refused(t, s, name, uint32(rows.Leaves(s)), keys[q], rows.Way(places, q), "beyond")
				expect(t, climb(t, s, name, uint32(q), keys[q], rows.Way(places, q)), places[1], "P11.3: Climb, behind a refused one", s.Code, q)
			}
		}
	}
}

// P11.1, P11.2: what was handed in stays as it was, its spare room too, and isn't shared nor kept; nor do answers share memory, nor the rows of one way.
func TestKeepsApart(t *testing.T) {
	for _, s := range rows.TreesOf(1, 5) {
		last := uint32(rows.Leaves(s) - 1)
		in := append([][]byte{rows.Mixed(16, 73)}, rows.Keys(s, 74)...)
		for what, call := range map[string]func(in [][]byte) []byte{
			"May": func(in [][]byte) []byte {
				if merkle.May(s, in[0], in[1:]) {
					return []byte{1}
				}
				return nil
			},
			"Root":                 func(in [][]byte) []byte { return merkle.Root(s, in[0], in[1:]) },
			"Root, a key too few":  func(in [][]byte) []byte { return merkle.Root(s, in[0], in[2:]) },
			"Root, a key too many": func(in [][]byte) []byte { return merkle.Root(s, in[0], in) },
		} {
			tellApart(t, s, what, rows.Apart(call, in...))
		}
		for _, q := range []uint32{0, 1, last, last + 1} {
			tellApart(t, s, "Way", rows.ApartList(func(in [][]byte) [][]byte { return merkle.Way(s, in[0], in[1:], q) }, in...))
			tellApart(t, s, "Way, none", rows.Apart(func(in [][]byte) []byte { merkle.Way(s, in[0], in[1:], q); return nil }, in...))
		}
	}
	for _, s := range rows.TreesOf(10, 10) {
		in := append([][]byte{rows.Mixed(16, 75)}, rows.Keys(s, 76)...)
		tellApart(t, s, "Root", rows.Apart(func(in [][]byte) []byte { return merkle.Root(s, in[0], in[1:]) }, in...))
		tellApart(t, s, "Way", rows.ApartList(func(in [][]byte) [][]byte { return merkle.Way(s, in[0], in[1:], 341) }, in...))
	}
}

// P11.2: what is handed in to Climb stays as it was, its spare room too, and isn't shared nor kept.
func TestClimbKeepsApart(t *testing.T) {
	for _, s := range rows.Trees() {
		in := append([][]byte{rows.Mixed(16, 77), rows.Mixed(s.N, 78)}, rows.Some(s.H, s.N, 79)...)
		for _, q := range []uint32{0, 1, uint32(rows.Leaves(s) - 1), uint32(rows.Leaves(s))} {
			for what, call := range map[string]func(in [][]byte) []byte{
				"Climb":                 func(in [][]byte) []byte { got, _ := merkle.Climb(s, in[0], q, in[1], in[2:]); return got },
				"Climb, a sum too few":  func(in [][]byte) []byte { got, _ := merkle.Climb(s, in[0], q, in[1], in[3:]); return got },
				"Climb, a sum too many": func(in [][]byte) []byte { got, _ := merkle.Climb(s, in[0], q, in[1], in[1:]); return got },
			} {
				tellApart(t, s, what, rows.Apart(call, in...))
			}
		}
	}
}

// tellApart tells how a call failed to keep its answer apart.
func tellApart(t *testing.T, s api.Tree, what, how string) {
	t.Helper()
	if how != "" {
		t.Errorf("P11: %v, tree %#x: %v", what, s.Code, how)
	}
}

// P11.1: each row of a way written over by itself, and the list too, leaves the others, the root, and what was handed in as they were.
func TestWaysWrittenOver(t *testing.T) {
	name := rows.Mixed(16, 80)
	for _, s := range rows.TreesOf(1, 5) {
		keys := rows.Keys(s, 81)
		places := byOthers.Places(s, name, keys)
		for q := range keys {
			for h := range s.H {
				got, beside := merkle.Way(s, name, keys, uint32(q)), merkle.Way(s, name, keys, uint32(q^1))
				rows.Flip(got[h][:cap(got[h])])
				rows.ExpectWay(t, with(got, h, rows.Way(places, q)[h]), rows.Way(places, q), "P11.1: Way, a row written over", s.Code, q, h)
				rows.ExpectWay(t, beside, rows.Way(places, q^1), "P11.1: another Way, a row written over", s.Code, q, h)
				got = got[:cap(got)]
				clear(got)
				rows.ExpectWay(t, merkle.Way(s, name, keys, uint32(q)), rows.Way(places, q), "P11.1: Way, again", s.Code, q, h)
			}
		}
		expect(t, merkle.Root(s, name, keys), places[1], "P11.1: Root, ways written over", s.Code)
		rows.ExpectWay(t, keys, rows.Keys(s, 81), "P11.1: the keys, ways written over", s.Code)
	}
}

// P11.1, P11.2: lists of keys and of sums stay as they were, their spare room too.
func TestListsStay(t *testing.T) {
	name := rows.Mixed(16, 82)
	for _, s := range rows.TreesOf(1, 5) {
		for what, call := range map[string]func(list [][]byte){
			"May":                   func(list [][]byte) { merkle.May(s, name, list[:rows.Leaves(s)]) },
			"Root":                  func(list [][]byte) { merkle.Root(s, name, list[:rows.Leaves(s)]) },
			"Root, a key too few":   func(list [][]byte) { merkle.Root(s, name, list[:rows.Leaves(s)-1]) },
			"Way":                   func(list [][]byte) { merkle.Way(s, name, list[:rows.Leaves(s)], 1) },
			"Way, no leaf":          func(list [][]byte) { merkle.Way(s, name, list[:rows.Leaves(s)], uint32(rows.Leaves(s))) },
			"Climb":                 func(list [][]byte) { merkle.Climb(s, name, 1, nil, list[:s.H]) },
			"Climb, a sum too few":  func(list [][]byte) { merkle.Climb(s, name, 1, nil, list[:s.H-1]) },
			"Climb, a sum too many": func(list [][]byte) { merkle.Climb(s, name, 0, nil, list[:s.H+1]) },
		} {
			full := rows.Some(2*rows.Leaves(s)+2, s.N, 83)
			was := slices.Clone(full)
			call(full)
			for i := range full {
				if len(full[i]) != s.N || &full[i][0] != &was[i][0] || !bytes.Equal(full[i], rows.Some(len(full), s.N, 83)[i]) {
					t.Errorf("P11: %v, tree %#x, changed the place %v of the list", what, s.Code, i)
				}
			}
		}
	}
}

// P11.1, P11.2: rows that share memory are taken as they stand, each up to its own end.
func TestShared(t *testing.T) {
	for _, s := range rows.TreesOf(1, 5) {
		b := rows.Mixed(256, 84)
		name, keys, way := b[:16], make([][]byte, rows.Leaves(s)), make([][]byte, s.H)
		for q := range keys {
			keys[q] = b[q : q+s.N]
		}
		for h := range way {
			way[h] = b[7*h : 7*h+s.N]
		}
		expectTree(t, s, name, keys, all(rows.Leaves(s)), "rows that share memory")
		expectClimb(t, s, name, 1, b[3:90], way, "rows that share memory")
		expect(t, b, rows.Mixed(256, 84), "P11: what is shared", s.Code)
	}
}
