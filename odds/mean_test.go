package odds_test

import (
	"math"
	"math/rand/v2"
	"slices"
	"testing"

	"tearoff/odds"
)

// knownMean: what Mean must answer: every two summed as fractions, each sum rounded once, and then the quotient.
func knownMean(l []float64) float64 {
	sum := 0.0
	for _, x := range l {
		sum = knownSum(sum, x)
	}
	return knownShare(sum, float64(len(l)))
}

// knownSum: the sum of two, as IEEE 754 says; the first one isn't -0.
func knownSum(a, b float64) float64 {
	kind, with := knownKind(a), knownKind(b)
	switch {
	case kind == isNaN || with == isNaN || isEnd(kind) && isEnd(with) && kind != with:
		return nan()
	case isEnd(kind):
		return a
	case isEnd(with):
		return b
	}
	x := exact(a)
	sum, _ := x.Add(x, exact(b)).Float64()
	return sum
}

// checkMean tells where Mean isn't what it must be.
func checkMean(t *testing.T, l []float64, want float64) {
	t.Helper()
	expect(t, odds.Mean(l), want, "P23.2: Mean", l)
}

// P23.2: Mean, written out: of none, of one, of -0 alone, of such whose sum hangs on the order, of infinite ones, of a sum that overflows, and of NaN.
func TestMeanWrittenOut(t *testing.T) {
	for _, c := range []struct {
		l    []float64
		want float64
	}{
		{nil, nan()}, {[]float64{}, nan()},
		{[]float64{7}, 7}, {[]float64{-0.1}, -0.1}, {[]float64{math.MaxFloat64}, math.MaxFloat64}, {[]float64{math.SmallestNonzeroFloat64}, math.SmallestNonzeroFloat64},
		{[]float64{inf()}, inf()}, {[]float64{minusInf()}, minusInf()}, {[]float64{nan()}, nan()},
		{[]float64{0}, 0}, {[]float64{minus0()}, 0}, {[]float64{minus0(), minus0()}, 0}, // the sum begins with 0
		{[]float64{1, 2, 6}, 3}, {[]float64{1, 2}, 1.5}, {[]float64{1, -1}, 0}, {[]float64{-1, 1}, 0}, {[]float64{-1, -2}, -1.5},
		{[]float64{1, 0, 0}, math.Float64frombits(0x3fd5555555555555)},
		{[]float64{1e16, 1, -1e16}, 0}, {[]float64{1e16, -1e16, 1}, math.Float64frombits(0x3fd5555555555555)}, {[]float64{1, 1e16, -1e16}, 0},
		{[]float64{1 << 53, 1, 1, -1 << 53}, 0}, {[]float64{1, 1, 1 << 53, -1 << 53}, 0.5},
		{[]float64{0.1, 0.2, 0.3}, math.Float64frombits(0x3fc999999999999b)}, {[]float64{0.3, 0.2, 0.1}, math.Float64frombits(0x3fc9999999999999)},
		{[]float64{inf(), minusInf()}, nan()}, {[]float64{minusInf(), inf()}, nan()}, {[]float64{inf(), minusInf(), 5}, nan()}, {[]float64{inf(), inf()}, inf()}, {[]float64{minusInf(), math.MaxFloat64}, minusInf()},
		{[]float64{math.MaxFloat64, math.MaxFloat64}, inf()}, {[]float64{-math.MaxFloat64, -math.MaxFloat64}, minusInf()},
		{[]float64{math.MaxFloat64, math.MaxFloat64, -math.MaxFloat64}, inf()}, {[]float64{math.MaxFloat64, -math.MaxFloat64, math.MaxFloat64, 0}, math.MaxFloat64 / 4},
		{[]float64{math.MaxFloat64, math.MaxFloat64, minusInf()}, nan()},
		{[]float64{-math.SmallestNonzeroFloat64, 0, 0}, minus0()}, {[]float64{math.SmallestNonzeroFloat64, 0, 0}, 0},
		{[]float64{1, nan(), 2}, nan()}, {[]float64{nan(), 1}, nan()}, {[]float64{1, nan()}, nan()}, {[]float64{inf(), nan()}, nan()},
	} {
		checkMean(t, c.l, c.want)
	}
}

// P23.2: Mean of every one and every two of the row, of such three whose middle one takes away what the first one brings, and of all of it.
func TestMeanOfRow(t *testing.T) {
	l := row()
	for _, a := range l {
		checkMean(t, []float64{a}, knownMean([]float64{a}))
		for _, b := range l {
			for _, k := range [][]float64{{a, b}, {a, -a, b}, {a, b, -a}} {
				checkMean(t, k, knownMean(k))
			}
		}
	}
	checkMean(t, l, nan())
	checkMean(t, bare(), nan())
	ends := bare()[1 : len(bare())-1]
	checkMean(t, ends, knownMean(ends))
	slices.Reverse(ends)
	checkMean(t, ends, knownMean(ends))
}

// P23.2: Mean of longer lists, of numbers of sizes near each other.
func TestMeanOfMixed(t *testing.T) {
	m := rand.New(rand.NewPCG(23, 5))
	for range 300 {
		var l []float64
		for range m.IntN(40) + 1 {
			l = append(l, math.Ldexp(m.Float64()-0.5, m.IntN(60)))
		}
		checkMean(t, l, knownMean(l))
		mixed := mixedList(m, m.IntN(5)+1)
		checkMean(t, mixed, knownMean(mixed))
	}
}

// P23.2: Mean of many alike ones, where each sum is rounded: it isn't that of one.
func TestMeanOfMany(t *testing.T) {
	l := slices.Repeat([]float64{0.1}, 1000)
	if knownMean(l) == 0.1 {
		t.Fatal("the sum isn't rounded")
	}
	checkMean(t, l, knownMean(l))
}
