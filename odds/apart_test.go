package odds_test

import (
	"math"
	"math/rand/v2"
	"slices"
	"testing"

	"tearoff/api"
	"tearoff/odds"
)

// bitsOf: a list's bits, those of its spare room too.
func bitsOf(l []float64) []uint64 {
	var out []uint64
	for _, x := range l[:cap(l)] {
		out = append(out, math.Float64bits(x))
	}
	return out
}

// guarded: the list in memory of its own, with numbers as spare room behind it, of which a greater one, and NaN.
func guarded(l []float64) []float64 {
	out := append(make([]float64, 0, len(l)+3), l...)
	copy(out[len(l):cap(out)], []float64{inf(), 7, nan()})
	return out
}

// P23.2: Best and Mean leave the list as it was, bit by bit, its spare room too, and don't hang on that room.
func TestListsStay(t *testing.T) {
	m := rand.New(rand.NewPCG(23, 8))
	for i := range 200 {
		l := mixedList(m, i%12)
		g := guarded(l)
		was := bitsOf(g)
		best, mean := odds.Best(g), odds.Mean(g)
		if !slices.Equal(bitsOf(g), was) {
			t.Fatalf("P23.2: %v is changed", l)
		}
		if plain := slices.Clip(l); best != odds.Best(plain) || !same(mean, odds.Mean(plain)) {
			t.Errorf("P23.2: %v hangs on spare room", l)
		}
		clear(g[:cap(g)])
		if best != knownBest(l) || !same(mean, knownMean(l)) || odds.Best(l) != best || !same(odds.Mean(l), mean) {
			t.Errorf("P23.2: %v hangs on what was written over", l)
		}
	}
}

// asked: all that can be asked for of three numbers, and of two whole ones.
func asked(a, b, c float64, total, next uint64) []float64 {
	x := api.Counted{Total: total, Next: next}
	between, ok := odds.Clamp(a, b, c)
	out := []float64{odds.Share(a, b), float64(odds.Kind(a)), float64(odds.Compare(a, b)), float64(odds.Best([]float64{a, b, c})), odds.Mean([]float64{a, b, c}), odds.Left(x), odds.Days(x, a), between}
	if ok {
		return append(out, 1)
	}
	return append(out, 0)
}

// What is asked for again is the same, whatever was asked for since, where what no number is left by a panic too.
func TestAskedAgain(t *testing.T) {
	m := rand.New(rand.NewPCG(23, 9))
	type question struct {
		l           []float64
		total, next uint64
	}
	var all []question
	var answers [][]float64
	for i := range 2000 {
		q := question{mixedList(m, 3), m.Uint64() >> m.IntN(64), m.Uint64() >> m.IntN(64)}
		all, answers = append(all, q), append(answers, asked(q.l[0], q.l[1], q.l[2], q.total, q.next))
		was := m.IntN(i + 1)
		q = all[was]
		if again := asked(q.l[0], q.l[1], q.l[2], q.total, q.next); !slices.EqualFunc(again, answers[was], same) {
			t.Errorf("%v: %v, not %v", q, again, answers[was])
		}
	}
}

// What is asked for at the same time is what it is alone.
func TestAskedAtOnce(t *testing.T) {
	for i := range 8 {
		t.Run("", func(t *testing.T) {
			t.Parallel()
			m := rand.New(rand.NewPCG(23, uint64(10+i)))
			for range 500 {
				l := mixedList(m, 3)
				want, may := knownClamp(l[0], l[1], l[2])
				checkClamp(t, l[0], l[1], l[2], want, may)
				checkBest(t, l, knownBest(l))
				checkMean(t, l, knownMean(l))
			}
		})
	}
}
