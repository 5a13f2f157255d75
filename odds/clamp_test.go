package odds_test

import (
	"math"
	"math/rand/v2"
	"testing"

	"tearoff/odds"
)

// knownClamp: what Clamp must answer, by the places in the order.
func knownClamp(x, low, high float64) (float64, bool) {
	switch {
	case isNo(x) || isNo(low) || isNo(high) || place(low) > place(high):
		return nan(), false
	case place(x) < place(low):
		return low, true
	case place(x) > place(high):
		return high, true
	default:
		return x, true
	}
}

// checkClamp tells where Clamp isn't that, bit by bit.
func checkClamp(t *testing.T, x, low, high, want float64, may bool) {
	t.Helper()
	got, ok := odds.Clamp(x, low, high)
	if ok != may || !same(got, want) {
		t.Errorf("P23.2: Clamp(%v, %v, %v): %v, %v, not %v, %v", x, low, high, got, ok, want, may)
	}
}

// P23.2: Clamp, written out: x, low or high, with a -0 beside a 0.
func TestClampWrittenOut(t *testing.T) {
	for _, c := range [][4]float64{
		{1, 0, 5, 1}, {-1, 0, 5, 0}, {6, 0, 5, 5}, {0, 0, 5, 0}, {5, 0, 5, 5}, {3, 3, 3, 3}, {2, 3, 3, 3}, {4, 3, 3, 3},
		{minus0(), 0, 5, 0}, {0, minus0(), 5, 0}, {minus0(), minus0(), 5, minus0()}, {minus0(), minus0(), 0, minus0()}, {0, minus0(), 0, 0},
		{0, -5, minus0(), minus0()}, {minus0(), -5, 0, minus0()}, {0, -5, 0, 0}, {0, minus0(), minus0(), minus0()}, {minus0(), 0, 0, 0},
		{1, minusInf(), inf(), 1}, {inf(), minusInf(), inf(), inf()}, {minusInf(), minusInf(), inf(), minusInf()}, {inf(), 0, 5, 5}, {minusInf(), 0, 5, 0}, {1, inf(), inf(), inf()}, {1, minusInf(), minusInf(), minusInf()},
		{inf(), 0, math.MaxFloat64, math.MaxFloat64}, {0, math.SmallestNonzeroFloat64, 1, math.SmallestNonzeroFloat64},
	} {
		checkClamp(t, c[0], c[1], c[2], c[3], true)
	}
}

// P23.2: Clamp tells false, and NaN, if low stands behind high, or one of the three is NaN, of whatever bits.
func TestClampOfNone(t *testing.T) {
	for _, c := range [][3]float64{{1, 5, 0}, {5, 5, 0}, {0, 5, 0}, {1, 0, minus0()}, {0, 0, minus0()}, {minus0(), 0, minus0()}, {1, inf(), minusInf()}, {7, 2, 1}, {1, math.Nextafter(1, 2), 1}} {
		checkClamp(t, c[0], c[1], c[2], nan(), false)
	}
	for _, e := range edges {
		if e.kind != isNaN {
			continue
		}
		x := math.Float64frombits(e.bits)
		for _, c := range [][3]float64{{x, 0, 1}, {1, x, 1}, {1, 0, x}, {x, x, 1}, {x, 0, x}, {1, x, x}, {x, x, x}, {x, 1, 0}, {inf(), x, inf()}, {inf(), minusInf(), x}, {minusInf(), x, minusInf()}} {
			checkClamp(t, c[0], c[1], c[2], nan(), false)
		}
	}
}

// P23.2: Clamp of every three of the row.
func TestClampOfRow(t *testing.T) {
	for _, x := range row() {
		for _, low := range row() {
			for _, high := range row() {
				want, may := knownClamp(x, low, high)
				checkClamp(t, x, low, high, want, may)
			}
		}
	}
}

// P23.2: Clamp of numbers of any bits.
func TestClampOfMixed(t *testing.T) {
	m := rand.New(rand.NewPCG(23, 6))
	for range 20000 {
		l := mixedList(m, 3)
		want, may := knownClamp(l[0], l[1], l[2])
		checkClamp(t, l[0], l[1], l[2], want, may)
	}
}

// P23.2: what Clamp tells lies between the two, and is left as it is, if it is handed in again.
func TestClampBetween(t *testing.T) {
	for _, x := range bare() {
		for _, low := range bare() {
			for _, high := range bare() {
				got, ok := odds.Clamp(x, low, high)
				if !ok {
					continue
				}
				if odds.Compare(got, low) < 0 || odds.Compare(got, high) > 0 {
					t.Errorf("P23.2: Clamp(%v, %v, %v): %v", x, low, high, got)
				}
				checkClamp(t, got, low, high, got, true)
			}
		}
	}
}
