package odds_test

import (
	"math"
	"math/big"
	"testing"

	"tearoff/odds"
)

// The kinds, as the chapter counts them.
const (
	isPlain         = 0
	isZero          = 1
	isMinusZero     = 2
	isInfinite      = 3
	isMinusInfinite = 4
	isNaN           = 5
)

// The bits of some numbers that tests speak of.
const (
	bitsZero      = 0
	bitsMinusZero = 1 << 63
	bitsInf       = 0x7ff0000000000000
	bitsMinusInf  = 0xfff0000000000000
	bitsLeast     = 1
	bitsMost      = 0x7fefffffffffffff
)

// edge is a number at an edge, by its bits, and its kind.
type edge struct {
	bits uint64
	kind int
}

// edges are the numbers at the edges, in the order; those of NaN, which are all alike, at the end.
var edges = []edge{
	{bitsMinusInf, isMinusInfinite},
	{0xffefffffffffffff, isPlain}, // the least that isn't infinite
	{0xffeffffffffffffe, isPlain},
	{0xffe0000000000000, isPlain}, // -2^1023
	{0xc340000000000001, isPlain}, // -2^53 - 2
	{0xc340000000000000, isPlain}, // -2^53
	{0xc33fffffffffffff, isPlain}, // -2^53 + 1
	{0xc008000000000000, isPlain}, // -3
	{0xbff0000000000001, isPlain},
	{0xbff0000000000000, isPlain}, // -1
	{0xbfefffffffffffff, isPlain},
	{0xbfb999999999999a, isPlain}, // -0.1
	{0x8010000000000001, isPlain},
	{0x8010000000000000, isPlain}, // normal, and nearest to 0
	{0x800fffffffffffff, isPlain}, // denormal
	{0x8008000000000000, isPlain},
	{0x8000000000000002, isPlain},
	{0x8000000000000001, isPlain}, // negative, and nearest to 0
	{bitsMinusZero, isMinusZero},
	{bitsZero, isZero},
	{bitsLeast, isPlain}, // positive, and nearest to 0
	{0x0000000000000002, isPlain},
	{0x0008000000000000, isPlain},
	{0x000fffffffffffff, isPlain}, // denormal
	{0x0010000000000000, isPlain}, // normal, and nearest to 0
	{0x0010000000000001, isPlain},
	{0x3fb999999999999a, isPlain}, // 0.1
	{0x3fefffffffffffff, isPlain},
	{0x3ff0000000000000, isPlain}, // 1
	{0x3ff0000000000001, isPlain},
	{0x4008000000000000, isPlain}, // 3
	{0x433fffffffffffff, isPlain}, // 2^53 - 1
	{0x4340000000000000, isPlain}, // 2^53
	{0x4340000000000001, isPlain}, // 2^53 + 2
	{0x7fe0000000000000, isPlain}, // 2^1023
	{0x7feffffffffffffe, isPlain},
	{bitsMost, isPlain}, // the greatest that isn't infinite
	{bitsInf, isInfinite},
	{0x7ff8000000000001, isNaN}, // quiet ones, and such as signal, of either sign
	{0x7ff8000000000000, isNaN},
	{0x7ff0000000000001, isNaN},
	{0x7fffffffffffffff, isNaN},
	{0xfff8000000000000, isNaN},
	{0xfff0000000000001, isNaN},
	{0xffffffffffffffff, isNaN},
}

// row: the numbers at the edges.
func row() []float64 {
	var out []float64
	for _, e := range edges {
		out = append(out, math.Float64frombits(e.bits))
	}
	return out
}

// bare: those of them that aren't NaN.
func bare() []float64 {
	var out []float64
	for _, e := range edges {
		if e.kind != isNaN {
			out = append(out, math.Float64frombits(e.bits))
		}
	}
	return out
}

// minus0, inf, minusInf, nan: what no literal writes.
func minus0() float64   { return math.Float64frombits(bitsMinusZero) }
func inf() float64      { return math.Float64frombits(bitsInf) }
func minusInf() float64 { return math.Float64frombits(bitsMinusInf) }
func nan() float64      { return math.Float64frombits(0x7ff8000000000001) }

// isNo: whether it is NaN, by its bits.
func isNo(x float64) bool { return math.Float64bits(x)&^bitsMinusZero > bitsInf }

// negative: whether it has the sign, by its bits.
func negative(x float64) bool { return math.Float64bits(x)&bitsMinusZero != 0 }

// place: where a number stands in the order, by its bits: the sign, and how far it is from there to 0.
func place(x float64) int64 {
	far := int64(math.Float64bits(x) &^ bitsMinusZero)
	switch {
	case isNo(x):
		return math.MaxInt64
	case negative(x):
		return -1 - far
	default:
		return far
	}
}

// same: whether they are the same number, bit by bit; all NaN are.
func same(a, b float64) bool {
	return isNo(a) && isNo(b) || math.Float64bits(a) == math.Float64bits(b)
}

// expect tells where a number isn't that which it must be.
func expect(t *testing.T, got, want float64, what ...any) {
	t.Helper()
	if !same(got, want) {
		t.Errorf("%v: %v, %#016x, not %v, %#016x", what, got, math.Float64bits(got), want, math.Float64bits(want))
	}
}

// knownShare: what Share must answer: the quotient of two fractions, rounded once.
func knownShare(part, all float64) float64 {
	kind, by := knownKind(part), knownKind(all)
	switch {
	case kind == isNaN || by == isNaN || isEnd(kind) && isEnd(by) || isNought(kind) && isNought(by):
		return nan()
	case isEnd(kind) || isNought(by):
		return signed(inf(), part, all)
	case isEnd(by) || isNought(kind):
		return signed(0, part, all)
	}
	q, _ := new(big.Rat).Quo(exact(math.Abs(part)), exact(math.Abs(all))).Float64()
	return signed(q, part, all)
}

// knownKind: what Kind must answer, by the bits.
func knownKind(x float64) int {
	switch bits := math.Float64bits(x); {
	case isNo(x):
		return isNaN
	case bits == bitsZero:
		return isZero
	case bits == bitsMinusZero:
		return isMinusZero
	case bits == bitsInf:
		return isInfinite
	case bits == bitsMinusInf:
		return isMinusInfinite
	default:
		return isPlain
	}
}

// isEnd, isNought: whether numbers of that kind are infinite, or a 0 of either sign.
func isEnd(kind int) bool    { return kind == isInfinite || kind == isMinusInfinite }
func isNought(kind int) bool { return kind == isZero || kind == isMinusZero }

// signed: x with the sign that a quotient of these has.
func signed(x, part, all float64) float64 {
	if negative(part) != negative(all) {
		return math.Float64frombits(math.Float64bits(x) | bitsMinusZero)
	}
	return x
}

// exact: a number as a fraction.
func exact(x float64) *big.Rat { return new(big.Rat).SetFloat64(x) }

// The row is what it is said to be: the bits stand in the order, by the numbers that Go's library makes of them.
func TestRow(t *testing.T) {
	for i, e := range edges {
		x := math.Float64frombits(e.bits)
		if knownKind(x) != e.kind || math.IsNaN(x) != (e.kind == isNaN) || math.IsInf(x, 0) != isEnd(e.kind) {
			t.Errorf("%#016x: kind %v", e.bits, e.kind)
		}
		if i > 0 && place(math.Float64frombits(edges[i-1].bits)) >= place(x) && e.kind != isNaN {
			t.Errorf("%#016x stands at the wrong place", e.bits)
		}
	}
	for x, bits := range map[float64]uint64{-1: 0xbff0000000000000, 0.1: 0x3fb999999999999a, 1 << 53: 0x4340000000000000, 1<<53 - 1: 0x433fffffffffffff, 1<<53 + 2: 0x4340000000000001, math.MaxFloat64: bitsMost, math.SmallestNonzeroFloat64: bitsLeast, math.Nextafter(1, 0): 0x3fefffffffffffff, math.Ldexp(1, -1022): 0x0010000000000000} {
		if math.Float64bits(x) != bits {
			t.Errorf("%v: %#016x", x, math.Float64bits(x))
		}
	}
}

// The chapter's examples.
func TestExamples(t *testing.T) {
	expect(t, odds.Share(1, 0), inf(), "P23.1: Share(1, 0)")
	expect(t, odds.Share(-1, 0), minusInf(), "P23.1: Share(-1, 0)")
	expect(t, odds.Share(0, 0), nan(), "P23.1: Share(0, 0)")
	if c := odds.Compare(minus0(), 0); c != -1 {
		t.Errorf("P23.1: Compare(-0, 0): %v", c)
	}
}
