package walk_test

import (
	"math"
	"math/rand/v2"
	"testing"

	"tearoff/api"
	"tearoff/rows"
)

// numbers: so many leaves to go past, where some are left: none and fewer, some, all, one more, and many; those among them that end, or wrap, as others do.
func numbers(left int) []int {
	return []int{
		0, -1, -2, -left, -left - 1, math.MinInt32, -1 << 32, 1 - 1<<32, math.MinInt + 1, math.MinInt,
		1, 2, 3, left / 2, left - 1, left, left + 1, left + 2, 2 * left,
		math.MaxInt32, 1 << 32, 1<<32 + 1, 1<<32 - 1, math.MaxInt - 1, math.MaxInt, math.MaxInt - left, math.MaxInt - left + 1,
	}
}

// P24.1: Skip of any number, at the beginning, in the middle, behind the last leaf but one, at the end: how many are gone past, and what comes next.
func TestSkip(t *testing.T) {
	each(t, 1, 4, func(t *testing.T, s api.Tree) {
		x := plain(s, 32)
		for from := range rows.Leaves(s) + 1 {
			for _, n := range numbers(rows.Leaves(s) - from) {
				k := x.begin(t)
				k.goes(from, n%2 == 0)
				k.skips(n)
				k.ends()
				k.skips(n)
			}
		}
	})
}

// P24.1: likewise through higher trees, from some leaves on.
func TestSkipHigher(t *testing.T) {
	each(t, 5, 10, func(t *testing.T, s api.Tree) {
		n := rows.Leaves(s)
		x := plain(s, 34)
		for _, from := range []int{0, n / 2, n - 2, n - 1, n} {
			for i, m := range numbers(n - from) {
				if s.H == 10 && i%3 != from%3 {
					continue
				}
				k := x.begin(t)
				k.goes(from, i%2 == 0)
				k.skips(m)
				for range 3 {
					k.tells()
				}
			}
		}
	})
}

// P24.1, P24.2: gone past by ones, by twos, or all at once, as many sums are made as by telling, and the same comes next.
func TestSkipBy(t *testing.T) {
	each(t, 1, 5, func(t *testing.T, s api.Tree) {
		x := plain(s, 36)
		for step := 1; step <= rows.Leaves(s)+1; step++ {
			k := x.begin(t)
			for k.left() > 0 {
				k.skips(step)
			}
			if all := 2*rows.Leaves(s) - 2; k.w.Made() != all {
				t.Errorf("P24.2: Made, tree %#x, gone past by %v: %v, not %v", s.Code, step, k.w.Made(), all)
			}
			k.ends()
			k = x.begin(t)
			for k.left() > 0 {
				k.skips(step)
				k.tells()
			}
			k.ends()
		}
	})
}

// P24.1, P24.2: a new walk that goes past nothing makes nothing, and the first leaf then makes as many sums as the tree is high.
func TestSkipNothingAhead(t *testing.T) {
	each(t, 1, 10, func(t *testing.T, s api.Tree) {
		k := plain(s, 38).begin(t)
		for _, n := range []int{0, -1, math.MinInt, 0} {
			k.skips(n)
		}
		if k.w.Made() != 0 {
			t.Errorf("P24.2: Made, tree %#x, nothing gone past: %v", s.Code, k.w.Made())
		}
		k.skips(1)
		if k.w.Made() != s.H {
			t.Errorf("P24.2: Made, tree %#x, the first leaf gone past: %v, not %v", s.Code, k.w.Made(), s.H)
		}
		k.tells()
		if k.w.Made() != s.H+1 {
			t.Errorf("P24.2: Made, tree %#x, the second leaf told: %v, not %v", s.Code, k.w.Made(), s.H+1)
		}
	})
}

// does asks for the next leaf (0), or goes past leaves: none, fewer, one, some, all.
func (k *hike) does(c byte) {
	k.Helper()
	if c == 0 {
		k.tells()
		return
	}
	k.skips([]int{0, -1, 1, 2, 3, math.MaxInt, math.MinInt}[c-1])
}

// P24.1, P24.2: Next and Skip, in every order of some few.
func TestOrders(t *testing.T) {
	deeds := []byte{0, 1, 2, 3, 4, 5, 6}
	each(t, 1, 3, func(t *testing.T, s api.Tree) {
		x := plain(s, 40)
		most := 4
		if testing.Short() {
			most = 3
		}
		for n := range most + 1 {
			rows.Every(n, deeds, func(row []byte) {
				k := x.begin(t)
				for _, c := range row {
					k.does(c)
				}
				k.tells()
			})
		}
	})
}

// P24.1, P24.2: every way of telling leaves, or going past them, of low trees.
func TestToldOrPast(t *testing.T) {
	each(t, 1, 3, func(t *testing.T, s api.Tree) {
		x := plain(s, 42)
		rows.Every(rows.Leaves(s), []byte{0, 3}, func(row []byte) {
			k := x.begin(t)
			for _, c := range row {
				k.does(c)
			}
			k.ends()
		})
	})
}

// P24.1, P24.2: Next and Skip, mixed in long ones.
func TestMixed(t *testing.T) {
	each(t, 1, 10, func(t *testing.T, s api.Tree) {
		m := rand.New(rand.NewPCG(24, uint64(s.Code)))
		x := plain(s, 44)
		for range 10 {
			k := x.begin(t)
			for k.left() > 0 {
				switch m.IntN(4) {
				case 0:
					k.skips(m.IntN(rows.Leaves(s)/4 + 2))
				case 1:
					k.skips(-m.IntN(3))
				case 2:
					k.skips(m.IntN(4))
				default:
					k.tells()
				}
			}
			k.skips(m.IntN(3))
			k.ends()
		}
	})
}
