package slots_test

import (
	"bytes"
	"math/rand/v2"
	"slices"
	"testing"

	"tearoff/api"
	"tearoff/rows"
)

// saved is a number, and the bytes that were saved with it, or were to be.
type saved struct {
	number uint64
	b      []byte
}

// isOne: whether it is one of these.
func isOne(x saved, of []saved) bool {
	return slices.ContainsFunc(of, func(y saved) bool { return x.number == y.number && bytes.Equal(x.b, y.b) })
}

// keeps loads from new slots, and tells where it is none of these (or nothing, where that may be, too), or where it doesn't stay till something else is saved.
func (r rig) keeps(of []saved, none bool) {
	r.Helper()
	q := r.anew()
	b, number, e := q.Load()
	if e == api.NotFound && none {
		return
	}
	if e != api.OK || !isOne(saved{number, b}, of) {
		r.Fatalf("P20.4: Load: %v, %.20x, %v, which is none of %.20x, in %x", number, b, e, of, r.Sure())
	}
	q.Plan(api.Plan{Stop: 1})
	q.saves([]byte("behind"), api.Down)
	q.Up(nil, api.Plan{})
	q.anew().loads(number, b)
	q.saves([]byte("behind"), api.OK)
	q.anew().loads(number+1, []byte("behind"))
}

// sizesOf: of how many bytes what is saved last, and what is to be saved since, are, so that a record's end is torn too.
func sizesOf(n int) [][2]int {
	return [][2]int{{room(n), room(n)}, {4, room(n)}, {room(n), 4}, {0, 30}}
}

// cutAt: slots that saved so often, the last time so many bytes, and of which another save is cut by the power at a number (behind its flush, if it comes to that); the power comes again by these choices. What may be loaded then; whether nothing may be.
func cutAt(t *testing.T, n, saves, at int, sizes [2]int, choices []byte) (r rig, may []saved, none bool) {
	t.Helper()
	r = made(t, n)
	for i := range saves {
		b := text(sizes[0], byte(i))
		r.saves(b, api.OK)
		may = []saved{{uint64(i) + 1, b}}
	}
	r.Up(nil, api.Plan{Stop: at})
	next := saved{uint64(saves) + 1, text(sizes[1], 99)}
	if r.Save(next.b) == api.OK {
		may = nil
	}
	r.Up(choices, api.Plan{})
	return r, append(may, next), len(may) == 0 && at <= n+1
}

// P20.4: behind a power's end at each write and at the flush of a save, or behind it, by each kind of choice for each pending write, what is loaded is what was saved last, or what was to be saved since.
func TestPowerAtEach(t *testing.T) {
	for n := 1; n <= 2; n++ {
		for _, sizes := range sizesOf(n) {
			for saves := range 4 {
				for at := 1; at <= n+2; at++ {
					rows.Every(min(at-1, n), rows.Choices(), func(choices []byte) {
						r, may, none := cutAt(t, n, saves, at, sizes, choices)
						r.keeps(may, none)
					})
				}
			}
		}
	}
}

// P20.4: the same of more sectors, by fewer choices.
func TestPowerAtEachOfMany(t *testing.T) {
	few := map[int][]byte{3: {0, 1, 2 + 4*20, 3 + 4*20}, 4: {0, 1, 3 + 4*30}, 8: {0, 1}}
	for n, of := range few {
		for _, sizes := range sizesOf(n)[:2] {
			for saves := range 3 {
				for at := 1; at <= n+2; at++ {
					rows.Every(min(at-1, n), of, func(choices []byte) {
						r, may, none := cutAt(t, n, saves, at, sizes, choices)
						r.keeps(may, none)
					})
				}
			}
		}
	}
}

// P20.4: by all 256 choices, of a record of one sector, and of either sector of one of two.
func TestPowerByAllChoices(t *testing.T) {
	for c := range 256 {
		for _, sizes := range sizesOf(1) {
			for saves := range 3 {
				r, may, none := cutAt(t, 1, saves, 2, sizes, []byte{byte(c)})
				r.keeps(may, none)
				for _, choices := range [][]byte{{1, byte(c)}, {byte(c), 1}, {byte(c), 0}, {0, byte(c)}, {byte(c)}} {
					r, may, none := cutAt(t, 2, saves, 3, sizes, choices)
					r.keeps(may, none)
				}
			}
		}
	}
}

// P20.4: by a flush that fails all is pending, and nothing counts: behind the power's end it is what was saved last, or that.
func TestPowerBehindFailedFlush(t *testing.T) {
	for saves := range 4 {
		rows.Every(2, rows.Choices(), func(choices []byte) {
			r, _ := began(t, 2, saves)
			r.Plan(api.Plan{Fail: []int{3}})
			var may []saved
			if saves > 0 {
				b, number := r.Now()
				may = append(may, saved{number, b})
			}
			r.saves(text(100, 70), api.Failed)
			r.Up(choices, api.Plan{})
			r.keeps(append(may, saved{uint64(saves) + 1, text(100, 70)}), saves == 0)
		})
	}
}

// P20.4: the torn bytes of several saves that were cut one behind the other, in the same area: all of them were to be saved since.
func TestPowerBehindSeveralCuts(t *testing.T) {
	few := []byte{0, 1, 2 + 4*12, 3 + 4*12, 2 + 4*40, 3 + 4*40}
	for saves := range 3 {
		rows.Every(4, few, func(choices []byte) {
			r, _ := began(t, 2, saves)
			r.Plan(api.Plan{Fail: []int{3}, Stop: 6})
			var may []saved
			if saves > 0 {
				b, number := r.Now()
				may = append(may, saved{number, b})
			}
			for i, code := range []api.Code{api.Failed, api.Down} {
				b := text(100-i, byte(70+i))
				r.saves(b, code)
				may = append(may, saved{uint64(saves) + 1, b})
			}
			r.Up(choices, api.Plan{})
			r.keeps(may, saves == 0)
		})
	}
}

// mixed: numbers that are mixed the same way each time.
func mixed(start uint64) *rand.Rand { return rand.New(rand.NewPCG(start, 20)) }

// mixedRow: so many bytes; mixedPlan: a plan by which something may happen within some saves.
func mixedRow(m *rand.Rand, n int) []byte { return rows.MixedRow(m, n) }
func mixedPlan(m *rand.Rand) api.Plan     { return rows.MixedPlan(m) }

// script is slots that are saved in, and lose the power, and what may be loaded of them.
type script struct {
	rig
	m    *rand.Rand
	may  []saved
	none bool // whether nothing may be, too
}

// saving saves some bytes, or tries to.
func (s *script) saving() {
	_, number := s.Now()
	x := saved{number + 1, mixedRow(s.m, s.m.IntN(room(s.n)+1))}
	if s.Save(x.b) == api.OK {
		s.may, s.none = nil, false
	}
	s.may = append(s.may, x)
}

// losing loses the power, and tells where what is loaded behind it, by these slots or by others, may not be.
func (s *script) losing() {
	s.Up(mixedRow(s.m, s.m.IntN(6)), mixedPlan(s.m))
	if s.m.IntN(2) == 0 {
		s.rig = s.anew()
	}
	b, number, e := s.Load()
	if e == api.NotFound && s.none {
		s.knows(0, nil)
		return
	}
	got := saved{number, b}
	if e != api.OK || !isOne(got, s.may) {
		s.Fatalf("P20.4: Load: %v, %.20x, %v, none of %.20x", number, b, e, s.may)
	}
	s.may, s.none = []saved{got}, false
}

// P20.4: long scripts of saves, failures and losses of power, the power lost within them or behind them, torn in all ways: what is loaded behind each is what was saved last, or was to be saved since; and it is loaded again, till something else is saved.
func TestPowerInLongScripts(t *testing.T) {
	for start := range uint64(60) {
		m := mixed(start)
		s := script{rig: made(t, m.IntN(4)+1), m: m, none: true}
		for range 120 {
			for range m.IntN(4) {
				s.saving()
			}
			s.losing()
		}
	}
}
