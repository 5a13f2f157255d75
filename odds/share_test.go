package odds_test

import (
	"math"
	"math/rand/v2"
	"testing"

	"tearoff/odds"
)

// P23.1: Share of every two of the row, bit by bit.
func TestShareOfRow(t *testing.T) {
	for _, part := range row() {
		for _, all := range row() {
			expect(t, odds.Share(part, all), knownShare(part, all), "P23.1: Share", part, all)
		}
	}
}

// P23.1: Share, written out: where the quotient is rounded, is denormal, overflows, or underflows to a 0 of either sign.
func TestShareWrittenOut(t *testing.T) {
	for _, c := range []struct {
		part, all float64
		bits      uint64
	}{
		{1, 3, 0x3fd5555555555555},
		{2, 3, 0x3fe5555555555555},
		{-1, 3, 0xbfd5555555555555},
		{1, 10, 0x3fb999999999999a},
		{5, 6, 0x3feaaaaaaaaaaaab},
		{6, 3, 0x4000000000000000},
		{1, 49, 0x3f94e5e0a72f0539}, // one that isn't 1 less 48/49
		{1 << 53, 1<<53 - 1, 0x3ff0000000000001},
		{math.SmallestNonzeroFloat64, 2, bitsZero}, // half of the least: the even one
		{-math.SmallestNonzeroFloat64, 2, bitsMinusZero},
		{math.SmallestNonzeroFloat64, -2, bitsMinusZero},
		{-math.SmallestNonzeroFloat64, -2, bitsZero},
		{3 * math.SmallestNonzeroFloat64, 2, 2}, // one and a half: the even one
		{3 * math.SmallestNonzeroFloat64, 4, 1},
		{math.SmallestNonzeroFloat64, 1.5, 1},
		{math.Ldexp(1, -1022), 2, 0x0008000000000000}, // normal by 2: denormal
		{math.Ldexp(1, -1022), math.Nextafter(1, 2), 0x000fffffffffffff},
		{math.Float64frombits(0x001fffffffffffff), 2, 0x0010000000000000}, // half a step below the least normal one: the even one
		{math.Ldexp(1, -1022), math.Nextafter(math.Nextafter(1, 2), 2), 0x000ffffffffffffe},
		{math.Ldexp(-1, -1022), 3, 0x8005555555555555},
		{math.MaxFloat64, math.Nextafter(1, 0), bitsInf},
		{-math.MaxFloat64, math.Nextafter(1, 0), bitsMinusInf},
		{math.MaxFloat64, -0.5, bitsMinusInf},
		{-math.MaxFloat64, -0.5, bitsInf},
		{math.MaxFloat64, 1, bitsMost},
		{1, math.SmallestNonzeroFloat64, bitsInf},
		{1, -math.SmallestNonzeroFloat64, bitsMinusInf},
		{math.MaxFloat64, math.MaxFloat64, 0x3ff0000000000000},
		{math.SmallestNonzeroFloat64, -math.SmallestNonzeroFloat64, 0xbff0000000000000},
		{math.SmallestNonzeroFloat64, math.MaxFloat64, bitsZero},
		{-math.SmallestNonzeroFloat64, math.MaxFloat64, bitsMinusZero},
		{1, math.MaxFloat64, 0x0004000000000000},
		{0, 5, bitsZero},
		{0, -5, bitsMinusZero},
		{minus0(), 5, bitsMinusZero},
		{minus0(), -5, bitsZero},
		{1, inf(), bitsZero},
		{1, minusInf(), bitsMinusZero},
		{-1, inf(), bitsMinusZero},
		{0, minusInf(), bitsMinusZero},
		{inf(), -1, bitsMinusInf},
		{inf(), 0, bitsInf},
		{inf(), minus0(), bitsMinusInf},
		{minusInf(), minus0(), bitsInf},
		{1, minus0(), bitsMinusInf},
		{-1, minus0(), bitsInf},
	} {
		expect(t, odds.Share(c.part, c.all), math.Float64frombits(c.bits), "P23.1: Share", c.part, c.all)
	}
	for _, c := range [][2]float64{{0, 0}, {0, minus0()}, {minus0(), 0}, {minus0(), minus0()}, {inf(), inf()}, {inf(), minusInf()}, {minusInf(), inf()}, {minusInf(), minusInf()}, {nan(), 1}, {1, nan()}, {nan(), 0}, {0, nan()}, {nan(), inf()}, {nan(), nan()}} {
		expect(t, odds.Share(c[0], c[1]), nan(), "P23.1: Share", c[0], c[1])
	}
}

// P23.1: Share of numbers of any bits, and of such as lie near each other's edges.
func TestShareOfMixed(t *testing.T) {
	m := rand.New(rand.NewPCG(23, 1))
	for range 20000 {
		part, all := math.Float64frombits(m.Uint64()), math.Float64frombits(m.Uint64())
		expect(t, odds.Share(part, all), knownShare(part, all), "P23.1: Share", part, all)
		near := math.Ldexp(1+m.Float64(), m.IntN(120)-60)
		low := math.Float64frombits(m.Uint64() &^ 0xffe0000000000000)
		expect(t, odds.Share(low, near), knownShare(low, near), "P23.1: Share", low, near)
		high := math.Ldexp(1+m.Float64(), 1000+m.IntN(24))
		expect(t, odds.Share(-high, near), knownShare(-high, near), "P23.1: Share", -high, near)
	}
}

// P23.4: a number divided by 0 is infinite, by its signs; 0 by 0 is NaN, and so is what NaN is divided by 0.
func TestShareByZero(t *testing.T) {
	for _, x := range row() {
		want, other := inf(), minusInf()
		if negative(x) {
			want, other = other, want
		}
		if kind := knownKind(x); kind == isNaN || kind == isZero || kind == isMinusZero {
			want, other = nan(), nan()
		}
		expect(t, odds.Share(x, 0), want, "P23.4: Share by 0 of", x)
		expect(t, odds.Share(x, minus0()), other, "P23.4: Share by -0 of", x)
	}
}
