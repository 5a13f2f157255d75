package rows

import (
	"math"
	"slices"

	"tearoff/api"
	"tearoff/chain"
	"tearoff/digits"
	"tearoff/once"
	"tearoff/sets"
)

// pairCount is how many pairs of sets go together: of each kind and size four sets of the one sort, nine of the other.
const pairCount = 4 * 4 * 9

// Pairs: all pairs of sets that go together. It panics where some are missing, so that no test passes for want of them.
func Pairs() []api.Pair {
	var out []api.Pair
	for _, o := range Sets() {
		for _, t := range Trees() {
			if o.Kind == t.Kind && o.N == t.N {
				out = append(out, api.Pair{Ots: o.Code, Tree: t.Code})
			}
		}
	}
	if len(out) != pairCount {
		panic("not as many pairs as there are")
	}
	return out
}

// NoPairs: such as may not be: of sets that don't go together, of codes that are unknown, and of codes in each other's place.
func NoPairs() []api.Pair {
	unknown := []uint32{0, 25, 26, 100, 255, 256, 257, 256 + 5, 5 << 8, 5 << 16, 5 << 24, 1<<16 + 5, 1<<31 + 5, 0xf0000000, 0xf0000011, 0xf0000012, 0x70000001, 0xf0000101, math.MaxUint32}
	var out []api.Pair
	for _, o := range Sets() {
		for _, code := range append(unknown, 1, 4) {
			out = append(out, api.Pair{Ots: o.Code, Tree: code})
		}
		for _, t := range Trees() {
			out = append(out, api.Pair{Ots: o.Code, Tree: t.Code}, api.Pair{Ots: t.Code, Tree: o.Code})
		}
	}
	for _, t := range Trees() {
		for _, code := range append(unknown, 17, 18, 24) {
			out = append(out, api.Pair{Ots: code, Tree: t.Code})
		}
	}
	for _, code := range unknown {
		out = append(out, api.Pair{Ots: code, Tree: code}, api.Pair{Ots: code})
	}
	may := Pairs()
	return slices.DeleteFunc(out, func(p api.Pair) bool { return slices.Contains(may, p) })
}

// SetsOf: the two sets of a pair. It panics where they aren't known.
func SetsOf(p api.Pair) (api.Ots, api.Tree) {
	o, e := sets.Ots(p.Ots)
	t, f := sets.Tree(p.Tree)
	if e != api.OK || f != api.OK {
		panic("a code of no set")
	}
	return o, t
}

// Bare: the one-time signature of a text however long, put together by hand from layer 9.
func Bare(o api.Ots, s api.Seed, q uint32, text []byte) []byte {
	salt := once.Secret(o, s, q, 0xfffd)
	sum := chain.Part(o.Kind, o.N, s.Name, q, 0x8181, salt, text)
	out := append([]byte{0, 0, 0, byte(o.Code)}, salt...)
	for i, d := range digits.All(sum, o.W) {
		out = append(out, chain.Up(o, s.Name, q, i, 0, d, once.Secret(o, s, q, uint16(i)))...)
	}
	return out
}
