package rows

import (
	"math/bits"
	"slices"

	"tearoff/api"
)

// SumCount is how many kinds and sizes of sums there are. A sort of sums is one of them, in the order of the codes.
const SumCount = 4

// Pair: the pair of a sort of sums, of a width and a height. It panics where there is none.
func Pair(sort, w, h int) api.Pair {
	p := api.Pair{Ots: uint32(4*sort + bits.Len(uint(w))), Tree: uint32(4 + 5*sort + h/5)}
	if h < 5 {
		p.Tree = 0xf0000000 + uint32(4*sort+h)
	}
	if o, t := SetsOf(p); o.W != w || t.H != h || !slices.Contains(Pairs(), p) {
		panic("no such pair")
	}
	return p
}

// Levels: levels of a sort of sums, of these heights, the top one's first. Their widths are unlike, but small, so that keys are made soon.
func Levels(sort int, heights ...int) []api.Pair {
	var out []api.Pair
	for i, h := range heights {
		out = append(out, Pair(sort, []int{2, 4, 1}[i%3], h))
	}
	return out
}

// SizeOf: how many bytes the sums of levels have; HeightOf: how high a pair's tree is; High: how high all trees of levels are together.
func SizeOf(l []api.Pair) int {
	o, _ := SetsOf(l[0])
	return o.N
}

func HeightOf(p api.Pair) int {
	_, t := SetsOf(p)
	return t.H
}

func High(l []api.Pair) int {
	sum := 0
	for _, p := range l {
		sum += HeightOf(p)
	}
	return sum
}

// TallLevels: levels whose heights are 60 together, or as near to it as so many can be.
func TallLevels(sort int) [][]api.Pair {
	return levelsOf(sort, [][]int{
		{25}, {25, 25}, {25, 25, 10}, {10, 25, 25}, {20, 20, 20},
		{15, 15, 15, 15}, {25, 25, 5, 5}, {25, 25, 4, 4, 2}, {10, 10, 10, 10, 10, 10},
		{25, 10, 5, 5, 5, 5, 5}, {15, 15, 15, 5, 4, 3, 2, 1}, {1, 25, 2, 20, 3, 4, 4, 1}, {5, 5, 5, 5, 10, 10, 10, 10},
	})
}

// OverLevels: levels whose heights are more than 60 together: 61 of the first ones.
func OverLevels(sort int) [][]api.Pair {
	return levelsOf(sort, [][]int{
		{25, 25, 10, 1}, {1, 25, 25, 10}, {20, 20, 20, 1}, {10, 10, 10, 10, 10, 10, 1}, {15, 15, 15, 15, 1},
		{25, 10, 5, 5, 5, 5, 5, 1}, {15, 15, 15, 5, 4, 3, 3, 1}, {1, 25, 2, 20, 4, 4, 4, 1}, {25, 25, 4, 4, 3},
		{25, 25, 10, 2}, {25, 25, 15}, {25, 20, 20}, {20, 20, 20, 4}, {25, 25, 25}, {25, 25, 25, 25}, {20, 20, 20, 20, 20, 20, 20, 20},
		{25, 25, 25, 25, 25, 25, 25, 25}, {10, 10, 10, 10, 10, 10, 10, 10}, {15, 15, 15, 15, 15, 15, 15, 25}, {25, 25, 5, 1, 1, 1, 1, 2},
	})
}

// levelsOf: levels of a sort of sums, of each of these heights.
func levelsOf(sort int, list [][]int) [][]api.Pair {
	var out [][]api.Pair
	for _, heights := range list {
		out = append(out, Levels(sort, heights...))
	}
	return out
}

// NoLevels: such as may not be: none, too many, too high, of unlike sums, and with a pair that may not be.
func NoLevels() [][]api.Pair {
	out := [][]api.Pair{nil, {}}
	for sort := range SumCount {
		one := Pair(sort, 4, 1)
		for _, n := range []int{9, 10, 16, 17, 64, 256, 257, 258, 264} {
			out = append(out, slices.Repeat([]api.Pair{one}, n))
		}
		out = append(out, OverLevels(sort)...)
		for n := 2; n <= 8; n++ {
			for at := range n {
				for other := range SumCount {
					if other != sort {
						l := slices.Repeat([]api.Pair{one}, n)
						l[at] = Pair(other, 4, 1)
						out = append(out, l)
					}
				}
			}
		}
	}
	for _, p := range NoPairs() {
		out = append(out, []api.Pair{p}, []api.Pair{p, p})
	}
	for i, p := range NoPairs() {
		l := slices.Repeat([]api.Pair{Pair(i%SumCount, 2, 1)}, 1+i%7)
		out = append(out, slices.Insert(l, i%len(l), p), slices.Concat(l, []api.Pair{p}), slices.Concat([]api.Pair{p}, l))
	}
	return out
}
