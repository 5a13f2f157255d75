package rows

import (
	"math"
	"slices"

	"tearoff/api"
	"tearoff/sets"
)

// otsCount, treeCount are how many sets of one-time signatures, and of trees, there are.
const (
	otsCount  = 16
	treeCount = 36
)

// Sets: all sets of one-time signatures.
func Sets() []api.Ots { return all(sets.OtsCodes(), otsCount, sets.Ots) }

// Trees: all sets of trees.
func Trees() []api.Tree { return all(sets.TreeCodes(), treeCount, sets.Tree) }

// all: the sets of these codes. It panics where some are missing, so that no test passes for want of them.
func all[T any](codes []uint32, count int, set func(code uint32) (T, api.Code)) []T {
	var out []T
	for _, code := range codes {
		x, e := set(code)
		if e != api.OK {
			panic("a code of no set")
		}
		out = append(out, x)
	}
	if len(out) != count {
		panic("not as many sets as there are")
	}
	return out
}

// NoSets: those that differ from one of the sets in a single number, and some that differ in all.
func NoSets() []api.Ots {
	out := []api.Ots{{}, {Code: math.MaxUint32}, {N: 24}, {N: 32, P: 1, W: 1}, {N: 32, P: 67, W: 4, Shift: 4}, {Code: 17, N: 32, P: 67, W: 4, Shift: 4}, {Code: 3, Kind: -1, N: -32, W: -4, P: -67, Shift: -4}}
	for _, o := range Sets() {
		for _, code := range []uint32{0, 17, 18, o.Code + 1, o.Code - 1, o.Code + 4, o.Code + 8, o.Code + 256, o.Code + 1<<16, o.Code | 0xf0000000, o.Code | 1<<31} {
			x := o
			x.Code = code
			out = append(out, x)
		}
		out = append(out, changed(o,
			func(o *api.Ots) *int { return &o.Kind },
			func(o *api.Ots) *int { return &o.N },
			func(o *api.Ots) *int { return &o.W },
			func(o *api.Ots) *int { return &o.P },
			func(o *api.Ots) *int { return &o.Shift },
		)...)
	}
	return out
}

// NoTrees: those that differ from one of the sets of trees in a single number, and some that differ in all.
func NoTrees() []api.Tree {
	out := []api.Tree{{}, {Code: math.MaxUint32}, {N: 24, H: 1}, {N: 32, H: 5}, {Code: 4, N: 32, H: 5}, {Code: 25, Kind: 1, N: 24, H: 1}, {Code: 5, Kind: -1, N: -32, H: -5}, {Code: 0xf0000001, Kind: 1, N: 24, H: 2}}
	for _, t := range Trees() {
		for _, code := range []uint32{0, 4, 25, t.Code + 1, t.Code - 1, t.Code + 4, t.Code + 5, t.Code + 256, t.Code + 1<<16, t.Code ^ 0xf0000000, t.Code ^ 1<<31, 0xf0000000, 0xf0000011} {
			x := t
			x.Code = code
			out = append(out, x)
		}
		out = append(out, changed(t,
			func(t *api.Tree) *int { return &t.Kind },
			func(t *api.Tree) *int { return &t.N },
			func(t *api.Tree) *int { return &t.H },
		)...)
	}
	return out
}

// changed: what a set is with another number in one of its fields.
func changed[T any](set T, fields ...func(*T) *int) []T {
	var out []T
	for _, field := range fields {
		for _, v := range others(*field(&set)) {
			x := set
			*field(&x) = v
			out = append(out, x)
		}
	}
	return out
}

// others: numbers that aren't was: near to it, far, and such as a set may have.
func others(was int) []int {
	list := []int{was + 1, was - 1, was + 2, was + 8, was - 8, 2 * was, -was, ^was, was + 256, was + 1<<16, was + 1<<32, was + math.MinInt, math.MaxInt}
	list = append(list, 0, 1, 2, 3, 4, 5, 8, 10, 15, 20, 24, 25, 32, 67, 265)
	return slices.DeleteFunc(list, func(v int) bool { return v == was })
}

// Places: numbers q, each of whose bytes tells in one of them.
func Places() []uint32 {
	return []uint32{0, 1, 2, 255, 256, 258, 0xffff, 0x10000, 0x1020304, 1 << 31, math.MaxUint32 - 1, math.MaxUint32}
}

// Words: numbers d, each of whose bytes tells in one of them.
func Words() []uint16 {
	return []uint16{0, 1, 255, 256, 258, 264, 0x8080, 0x8081, 0x8181, 0x8282, 0x8383, 0xfffd, 0xffff}
}
