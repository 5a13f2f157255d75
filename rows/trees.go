package rows

import (
	"bytes"
	"slices"

	"tearoff/api"
	"tearoff/chain"
)

// A Parter tells the part of a place and a word; trees are put together by hand of what it tells.
type Parter func(t api.Tree, name []byte, place, word int, texts ...[]byte) []byte

// LayerParts: the parts that layer 9 tells.
func LayerParts(t api.Tree, name []byte, place, word int, texts ...[]byte) []byte {
	return chain.Part(t.Kind, t.N, name, uint32(place), uint16(word), texts...)
}

// PartsBy: the parts by sums that aren't the program's, of what is laid out here.
func PartsBy(sha func(b []byte) [32]byte, shake func(b []byte, n int) []byte) Parter {
	return func(t api.Tree, name []byte, place, word int, texts ...[]byte) []byte {
		b := append(bytes.Clone(name), byte(place>>24), byte(place>>16), byte(place>>8), byte(place), byte(word>>8), byte(word))
		b = append(b, bytes.Join(texts, nil)...)
		if t.Kind == 1 {
			return shake(b, t.N)
		}
		s := sha(b)
		return s[:t.N]
	}
}

// Places: the sums of all places of a tree, each at its number.
func (part Parter) Places(t api.Tree, name []byte, keys [][]byte) [][]byte {
	out := make([][]byte, 2*len(keys))
	for q, k := range keys {
		out[len(keys)+q] = part(t, name, len(keys)+q, 0x8282, k)
	}
	for r := len(keys) - 1; r >= 1; r-- {
		out[r] = part(t, name, r, 0x8383, out[2*r], out[2*r+1])
	}
	return out
}

// Way: the way of a leaf, by the sums of all places.
func Way(places [][]byte, q int) [][]byte {
	var out [][]byte
	for r := len(places)/2 + q; r > 1; r /= 2 {
		out = append(out, places[r^1])
	}
	return out
}

// ExpectWay tells where a way isn't the one that it must be.
func ExpectWay(t Tester, got, want [][]byte, what ...any) {
	t.Helper()
	if len(want) == 0 || !slices.EqualFunc(got, want, bytes.Equal) {
		t.Errorf("%v: %v sums, %x, not %v, %x", what, len(got), got, len(want), want)
	}
}

// TreesOf: the sets of trees whose height lies between two, of both kinds and sizes. It panics where there are none.
func TreesOf(from, to int) []api.Tree {
	out := slices.DeleteFunc(Trees(), func(s api.Tree) bool { return s.H < from || s.H > to })
	if len(out) < SumCount {
		panic("no trees of these heights")
	}
	return out
}

// Leaves: how many a tree has.
func Leaves(s api.Tree) int { return 1 << s.H }

// Keys: a key for each leaf of a tree, of N bytes, which start marks.
func Keys(s api.Tree, start byte) [][]byte { return Some(Leaves(s), s.N, start) }

// Some: that many rows of n bytes, unlike each other, which start marks.
func Some(count, n int, start byte) [][]byte {
	out := make([][]byte, count)
	b := Mixed(count*n, start)
	for i := range out {
		out[i] = bytes.Clone(b[n*i : n*(i+1)])
	}
	return out
}
