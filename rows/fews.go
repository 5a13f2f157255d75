package rows

import (
	"math"

	"tearoff/api"
)

// MostLayers: of each height from 1 on how many layers a set of few may have.
func MostLayers() []int { return []int{22, 22, 22, 16, 13, 11, 10, 8, 8} }

// FewFields: the numbers of a set of few.
func FewFields(f *api.Few) []*int { return []*int{&f.N, &f.Layers, &f.Height, &f.K, &f.A} }

// Far: numbers that are none of any set of few: far ones, and such as are alike to some by their last bits.
func Far() []int {
	return []int{-1, -16, -255, -256, math.MinInt32, math.MinInt, math.MinInt + 1, math.MinInt + 16, math.MinInt / 2, 64, 65, 100, 256, 256 + 16, 1<<16 + 1, 1<<16 + 16, 1 << 31, 1 << 32, 1<<32 + 1, 1<<32 + 16, 1 << 61, 1<<62 + 1, math.MaxInt/2 + 1, math.MaxInt - 1, math.MaxInt}
}

// NoFews: sets of few that may not be, by one of their numbers alone, by two that go too high together, and by all.
func NoFews() []api.Few {
	out := []api.Few{{}, {N: -16, Layers: -1, Height: -1, K: -1, A: -1}, {N: 16, Layers: 23, Height: 10, K: 41, A: 15}}
	for _, f := range []api.Few{{N: 16, Layers: 2, Height: 2, K: 2, A: 2}, {N: 24, Layers: 1, Height: 1, K: 1, A: 1}, {N: 32, Layers: 1, Height: 1, K: 40, A: 14}} {
		bad := [][]int{{0, 1, 8, 15, 17, 20, 23, 25, 31, 33, 40, 48}, {0, 23, 24}, {0, 10, 11}, {0, 41, 42}, {0, 15, 16, 32}}
		for i, list := range bad {
			for _, v := range append(list, Far()...) {
				x := f
				*FewFields(&x)[i] = v
				out = append(out, x)
			}
		}
		for _, v := range Far() {
			out = append(out, api.Few{N: v, Layers: v, Height: v, K: v, A: v})
		}
		for i, d := range MostLayers() {
			for layers := d + 1; layers <= 23; layers++ {
				out = append(out, api.Few{N: f.N, Layers: layers, Height: i + 1, K: f.K, A: f.A})
			}
		}
	}
	return out
}

// HighFews: sets of few that may be, but can't be made.
func HighFews() []api.Few {
	var out []api.Few
	for _, n := range []int{16, 24, 32} {
		for high := 7; high <= 14; high++ {
			out = append(out, api.Few{N: n, Layers: 1, Height: 1, K: 1, A: high}, api.Few{N: n, Layers: 11, Height: 6, K: 40, A: high})
			if high <= 9 {
				out = append(out, api.Few{N: n, Layers: 1, Height: high, K: 1, A: 1}, api.Few{N: n, Layers: 8, Height: high, K: 40, A: 6}, api.Few{N: n, Layers: 1, Height: high, K: 2, A: high})
			}
		}
	}
	return out
}
