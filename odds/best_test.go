package odds_test

import (
	"math"
	"math/rand/v2"
	"slices"
	"testing"

	"tearoff/odds"
)

// knownBest: what Best must answer: of those that aren't NaN the greatest place in the order, and the first that has it.
func knownBest(l []float64) int {
	var places []int64
	for _, x := range l {
		if !isNo(x) {
			places = append(places, place(x))
		}
	}
	if len(places) == 0 {
		return -1
	}
	most := slices.Max(places)
	return slices.IndexFunc(l, func(x float64) bool { return !isNo(x) && place(x) == most })
}

// checkBest tells where Best isn't what it must be.
func checkBest(t *testing.T, l []float64, want int) {
	t.Helper()
	if got := odds.Best(l); got != want {
		t.Errorf("P23.2: Best of %v: %v, not %v", l, got, want)
	}
}

// P23.2: Best, written out: of none, of one, of NaN, of alike ones at several places, of -0 and 0, of infinite ones.
func TestBestWrittenOut(t *testing.T) {
	less := math.Float64frombits(0xfff0000000000001)
	for _, c := range []struct {
		l    []float64
		want int
	}{
		{nil, -1}, {[]float64{}, -1},
		{[]float64{5}, 0}, {[]float64{minus0()}, 0}, {[]float64{minusInf()}, 0}, {[]float64{-1}, 0},
		{[]float64{nan()}, -1}, {[]float64{nan(), less, nan()}, -1},
		{[]float64{nan(), minusInf()}, 1}, {[]float64{nan(), 1, nan(), 2, less}, 3}, {[]float64{1, nan()}, 0}, {[]float64{2, nan(), 1}, 0}, {[]float64{less, nan(), inf()}, 2},
		{[]float64{3, 3, 3}, 0}, {[]float64{1, 3, 2, 3, 3}, 1}, {[]float64{nan(), 3, nan(), 3}, 1}, {[]float64{-3, -3}, 0},
		{[]float64{minus0(), 0}, 1}, {[]float64{0, minus0()}, 0}, {[]float64{minus0(), 0, minus0(), 0}, 1}, {[]float64{minus0(), minus0()}, 0}, {[]float64{minus0(), nan(), 0}, 2}, {[]float64{-math.SmallestNonzeroFloat64, minus0()}, 1},
		{[]float64{inf(), inf()}, 0}, {[]float64{minusInf(), minusInf()}, 0}, {[]float64{minusInf(), inf(), math.MaxFloat64}, 1}, {[]float64{math.MaxFloat64, minusInf()}, 0}, {[]float64{minusInf(), -math.MaxFloat64}, 1},
		{[]float64{1, 2, 3}, 2}, {[]float64{3, 2, 1}, 0}, {[]float64{-3, -1, -2}, 1},
	} {
		checkBest(t, c.l, c.want)
	}
}

// P23.2: Best of every one, every two and every three of the row, and of all of it, either way round.
func TestBestOfRow(t *testing.T) {
	l := row()
	for _, a := range l {
		checkBest(t, []float64{a}, knownBest([]float64{a}))
		for _, b := range l {
			checkBest(t, []float64{a, b}, knownBest([]float64{a, b}))
			for _, c := range l {
				checkBest(t, []float64{a, b, c}, knownBest([]float64{a, b, c}))
			}
		}
	}
	checkBest(t, l, len(bare())-1)
	slices.Reverse(l)
	checkBest(t, l, len(l)-len(bare()))
}

// mixedList: so many numbers, of the row or of any bits.
func mixedList(m *rand.Rand, n int) []float64 {
	l, out := row(), []float64{}
	for range n {
		if m.IntN(2) == 0 {
			out = append(out, l[m.IntN(len(l))])
		} else {
			out = append(out, math.Float64frombits(m.Uint64()))
		}
	}
	return out
}

// P23.2: Best of longer lists, and of the same with each of its parts.
func TestBestOfMixed(t *testing.T) {
	m := rand.New(rand.NewPCG(23, 4))
	for range 2000 {
		l := mixedList(m, m.IntN(40))
		for i := range l {
			checkBest(t, l[:i], knownBest(l[:i]))
			checkBest(t, l[i:], knownBest(l[i:]))
		}
	}
}
