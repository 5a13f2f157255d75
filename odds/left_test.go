package odds_test

import (
	"math"
	"math/big"
	"math/rand/v2"
	"testing"

	"tearoff/api"
	"tearoff/odds"
)

// rounded: a whole number as a floating one, the nearest, of two the even one.
func rounded(v uint64) float64 {
	x, _ := new(big.Float).SetPrec(53).SetMode(big.ToNearestEven).SetUint64(v).Float64()
	return x
}

// knownLeft and knownDays: what Left and Days must answer.
func knownLeft(total, next uint64) float64 { return knownDays(total, next, rounded(total)) }

func knownDays(total, next uint64, rate float64) float64 {
	if next > total {
		return nan()
	}
	return knownShare(rounded(total-next), rate)
}

// wholes are numbers around those from which on not every one is a floating number, around those that may be of a counter, and the greatest ones.
var wholes = []uint64{0, 1, 2, 3, 4, 7, 10, 49, 1000, 65536, 1<<32 - 1, 1 << 32, 1<<53 - 1, 1 << 53, 1<<53 + 1, 1<<53 + 2, 1<<53 + 3, 1<<54 + 2, 1<<54 + 6, 1<<60 - 1, 1 << 60, 1<<60 + 1, 1<<60 + 128, 1<<60 + 129, 1<<63 - 1, 1 << 63, 1<<63 + 1, 1<<63 + 1023, 1<<63 + 1024, 1<<63 + 1025, 1<<63 + 3072, math.MaxUint64 - 2048, math.MaxUint64 - 1024, math.MaxUint64 - 1023, math.MaxUint64 - 1, math.MaxUint64}

// P23.3: Left, written out: of a total and a next number of 0, of all left and nothing, of a next number above the total, and of numbers that are rounded.
func TestLeftWrittenOut(t *testing.T) {
	for _, c := range []struct {
		total, next uint64
		want        float64
	}{
		{10, 0, 1}, {10, 10, 0}, {10, 5, 0.5}, {10, 4, 0.6}, {8, 3, 0.625}, {3, 1, math.Float64frombits(0x3fe5555555555555)}, {1, 0, 1}, {1, 1, 0},
		{49, 48, math.Float64frombits(0x3f94e5e0a72f0539)}, // not 1 less 48/49
		{0, 0, nan()}, {1, 2, nan()}, {0, 1, nan()}, {0, math.MaxUint64, nan()}, {10, 11, nan()}, {math.MaxUint64 - 1, math.MaxUint64, nan()}, {1 << 53, 1<<53 + 1, nan()}, // also where both are rounded to one
		{1<<53 + 1, 1 << 53, 1.0 / (1 << 53)}, {1<<60 + 1, 1 << 60, 1.0 / (1 << 60)}, {math.MaxUint64, math.MaxUint64 - 1, 1.0 / (1 << 64)}, // the whole numbers are taken from each other
		{math.MaxUint64, 0, 1}, {math.MaxUint64, math.MaxUint64, 0}, {math.MaxUint64, 1 << 63, 0.5}, {1 << 63, 1 << 62, 0.5}, {1<<63 + 1025, 1025, math.Float64frombits(0x3feffffffffffffe)},
	} {
		expect(t, odds.Left(api.Counted{Total: c.total, Next: c.next}), c.want, "P23.3: Left", c.total, c.next)
	}
}

// P23.3: Days, written out, at rates of 0, -0, below 0, infinite and NaN too.
func TestDaysWrittenOut(t *testing.T) {
	for _, c := range []struct {
		total, next uint64
		rate, want  float64
	}{
		{10, 4, 1.5, 4}, {10, 4, 6, 1}, {10, 4, 12, 0.5}, {10, 4, 0.5, 12}, {10, 0, 3, math.Float64frombits(0x400aaaaaaaaaaaab)}, {10, 10, 3, 0}, {10, 4, -2, -3}, {10, 10, -2, minus0()},
		{10, 4, 0, inf()}, {10, 4, minus0(), minusInf()}, {10, 10, 0, nan()}, {10, 10, minus0(), nan()}, {0, 0, 0, nan()}, {0, 0, 1, 0}, {0, 0, -1, minus0()},
		{10, 4, inf(), 0}, {10, 4, minusInf(), minus0()}, {10, 10, inf(), 0}, {10, 4, nan(), nan()}, {10, 10, nan(), nan()},
		{10, 11, 1, nan()}, {10, 11, 0, nan()}, {10, 11, inf(), nan()}, {0, 1, minus0(), nan()}, {0, math.MaxUint64, 1, nan()}, {1 << 53, 1<<53 + 1, 1, nan()},
		{math.MaxUint64, 0, 1, 1 << 64}, {math.MaxUint64, 1 << 63, 1, 1 << 63}, {math.MaxUint64, 1<<64 - 2, 1, 1}, {1<<53 + 1, 0, 1, 1 << 53}, {1<<53 + 3, 0, 1, 1<<53 + 4}, {1<<53 + 3, 1, 1, 1<<53 + 2}, {1<<53 + 3, 1 << 53, 1, 3},
		{1<<63 + 1024, 0, 1, 1 << 63}, {1<<63 + 1025, 0, 1, 1<<63 + 2048}, {1<<64 - 1024, 0, 1, 1 << 64}, {1<<64 - 1025, 0, 1, 1<<64 - 2048},
		{10, 4, math.SmallestNonzeroFloat64, inf()}, {10, 4, math.MaxFloat64, math.Float64frombits(0x0018000000000001)}, {1, 0, math.MaxFloat64, math.Float64frombits(0x0004000000000000)},
	} {
		expect(t, odds.Days(api.Counted{Total: c.total, Next: c.next}, c.rate), c.want, "P23.3: Days", c.total, c.next, c.rate)
	}
}

// P23.3: Left and Days of every two of the whole numbers, at every rate of the row.
func TestLeftAndDaysOfRow(t *testing.T) {
	for _, total := range wholes {
		for _, next := range wholes {
			x := api.Counted{Total: total, Next: next}
			expect(t, odds.Left(x), knownLeft(total, next), "P23.3: Left", total, next)
			for _, rate := range row() {
				expect(t, odds.Days(x, rate), knownDays(total, next, rate), "P23.3: Days", total, next, rate)
			}
		}
	}
}

// P23.3: Left and Days of whole numbers of any bits, of such as lie near each other, and of few bits.
func TestLeftAndDaysOfMixed(t *testing.T) {
	m := rand.New(rand.NewPCG(23, 7))
	for range 20000 {
		total := m.Uint64() >> m.IntN(64)
		for _, next := range []uint64{m.Uint64() >> m.IntN(64), total - m.Uint64N(4), total + m.Uint64N(4), m.Uint64N(4)} {
			x, rate := api.Counted{Total: total, Next: next}, m.ExpFloat64()*100
			expect(t, odds.Left(x), knownLeft(total, next), "P23.3: Left", total, next)
			expect(t, odds.Days(x, rate), knownDays(total, next, rate), "P23.3: Days", total, next, rate)
		}
	}
}

// P23.3: how many are reserved, at once or in all, and whether the counter is retired changes nothing, whatever they are.
func TestLeftHangsOnTwo(t *testing.T) {
	for _, c := range [][2]uint64{{10, 4}, {10, 10}, {10, 11}, {0, 0}, {0, 1}, {math.MaxUint64, 1}, {1 << 60, 1<<60 - 1}} {
		for _, reserved := range wholes {
			for _, batch := range []uint64{0, 1, 4, 65536, math.MaxUint64} {
				for _, retired := range []bool{false, true} {
					x := api.Counted{Total: c[0], Batch: batch, Reserved: reserved, Next: c[1], Retired: retired}
					expect(t, odds.Left(x), knownLeft(c[0], c[1]), "P23.3: Left", x)
					expect(t, odds.Days(x, 2.5), knownDays(c[0], c[1], 2.5), "P23.3: Days", x)
				}
			}
		}
	}
}
