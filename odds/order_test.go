package odds_test

import (
	"cmp"
	"math"
	"math/rand/v2"
	"testing"

	"tearoff/odds"
)

// P23.1: Kind, of the row.
func TestKind(t *testing.T) {
	for _, e := range edges {
		if got := odds.Kind(math.Float64frombits(e.bits)); got != e.kind {
			t.Errorf("P23.1: Kind of %#016x: %v, not %v", e.bits, got, e.kind)
		}
	}
	m := rand.New(rand.NewPCG(23, 2))
	for range 10000 {
		x := math.Float64frombits(m.Uint64())
		if got := odds.Kind(x); got != knownKind(x) {
			t.Errorf("P23.1: Kind of %#016x: %v", math.Float64bits(x), got)
		}
	}
}

// P23.1: Kind of NaN, with any one of its bits set, of either sign; and of what alone they set it apart from.
func TestKindOfEachNaN(t *testing.T) {
	for bit := range 52 {
		for _, bits := range []uint64{bitsInf, bitsMinusInf} {
			if got := odds.Kind(math.Float64frombits(bits | 1<<bit)); got != isNaN {
				t.Errorf("P23.1: Kind of %#016x: %v", bits|1<<bit, got)
			}
		}
		for _, bits := range []uint64{bitsZero, bitsMinusZero} {
			if got := odds.Kind(math.Float64frombits(bits | 1<<bit)); got != isPlain {
				t.Errorf("P23.1: Kind of %#016x: %v", bits|1<<bit, got)
			}
		}
	}
}

// checkCompare tells where Compare isn't what the places of two numbers tell, or not the other way round.
func checkCompare(t *testing.T, a, b float64) {
	t.Helper()
	want := cmp.Compare(place(a), place(b))
	if got := odds.Compare(a, b); got != want {
		t.Errorf("P23.1: Compare(%v, %v): %v, not %v", a, b, got, want)
	}
	if got := odds.Compare(b, a); got != -want {
		t.Errorf("P23.4: Compare(%v, %v): %v, not %v", b, a, got, -want)
	}
}

// P23.1: Compare of every two of the row: by their places in it; all NaN are alike.
func TestCompareOfRow(t *testing.T) {
	first := len(bare())
	for i, a := range row() {
		for k, b := range row() {
			if want := cmp.Compare(min(i, first), min(k, first)); odds.Compare(a, b) != want {
				t.Errorf("P23.1: Compare(%v, %v): %v, not %v", a, b, odds.Compare(a, b), want)
			}
			checkCompare(t, a, b)
		}
	}
}

// P23.1: Compare of numbers of any bits, and of those that stand next to each other.
func TestCompareOfMixed(t *testing.T) {
	m := rand.New(rand.NewPCG(23, 3))
	for range 20000 {
		bits := m.Uint64()
		a := math.Float64frombits(bits)
		checkCompare(t, a, math.Float64frombits(m.Uint64()))
		checkCompare(t, a, math.Float64frombits(bits+1))
		checkCompare(t, a, math.Float64frombits(bits^bitsMinusZero))
		checkCompare(t, a, a)
	}
}

// P23.1: Compare, written out: NaN stands behind +Inf, of whatever sign; -0 ahead of 0.
func TestCompareWrittenOut(t *testing.T) {
	less := math.Float64frombits(0xfff8000000000000)
	for _, c := range []struct {
		a, b float64
		want int
	}{
		{minus0(), 0, -1}, {0, minus0(), 1}, {0, 0, 0}, {minus0(), minus0(), 0},
		{inf(), nan(), -1}, {nan(), inf(), 1}, {nan(), nan(), 0}, {less, nan(), 0}, {less, minusInf(), 1}, {minusInf(), less, -1},
		{nan(), minus0(), 1}, {nan(), 0, 1}, {minus0(), nan(), -1}, {0, nan(), -1},
		{inf(), inf(), 0}, {minusInf(), minusInf(), 0}, {minusInf(), inf(), -1}, {math.MaxFloat64, inf(), -1}, {minusInf(), -math.MaxFloat64, -1},
		{-math.SmallestNonzeroFloat64, minus0(), -1}, {0, math.SmallestNonzeroFloat64, -1}, {-2, -1, -1}, {2, 1, 1}, {1, 1, 0},
	} {
		if got := odds.Compare(c.a, c.b); got != c.want {
			t.Errorf("P23.1: Compare(%v, %v): %v, not %v", c.a, c.b, got, c.want)
		}
	}
}

// P23.4: the order is one: of three it goes through.
func TestOrderGoesThrough(t *testing.T) {
	l := row()
	for _, a := range l {
		if odds.Compare(a, a) != 0 {
			t.Errorf("P23.4: %v isn't alike itself", a)
		}
		for _, b := range l {
			ab := odds.Compare(a, b)
			for _, c := range l {
				bc, ac := odds.Compare(b, c), odds.Compare(a, c)
				if ab <= 0 && bc <= 0 && ac != min(ab, bc) || ab >= 0 && bc >= 0 && ac != max(ab, bc) {
					t.Errorf("P23.4: %v, %v, %v: %v, %v, but %v", a, b, c, ab, bc, ac)
				}
			}
		}
	}
}
