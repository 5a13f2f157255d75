package reserve_test

import (
	"math/rand/v2"
	"testing"

	"tearoff/api"
	"tearoff/reserve"
	"tearoff/rows"
)

// given is a counter that is opened again and again, and what must hold of the numbers that it gives out.
type given struct {
	rig
	total, batch uint64
	from         uint64 // the least number that wasn't given out, nor is less than one that was
}

// givenOf: one that was just made.
func givenOf(r rig) *given {
	x := r.State()
	return &given{rig: r, total: x.Total, batch: x.Batch}
}

// take takes a number, and tells where one is given out twice, or not rising, or that isn't below the total. It answers the code.
func (g *given) take() api.Code {
	g.Helper()
	n, e := g.Take()
	if e != api.OK {
		if n != 0 {
			g.Fatalf("P21.3: Take: %v, %v", n, e)
		}
		return e
	}
	if n < g.from || n >= g.total {
		g.Fatalf("P21.4: Take: %v, behind all below %v were given out, or skipped, of %v", n, g.from, g.total)
	}
	g.from = n + 1
	return e
}

// lost opens the counter anew behind a loss of power, and tells where more than the batch is skipped.
func (g *given) lost() {
	g.Helper()
	was := g.State().Next
	g.rig = g.opened()
	x := g.State()
	if x.Next < was || x.Next > was+g.batch || x.Next > g.total || x.Next != x.Reserved {
		g.Fatalf("P21.4: behind a loss of power the next is %v, not %v to %v more", x.Next, was, g.batch)
	}
}

// P21.4: with nothing lost and nothing failed: 0, 1, 2 and so on, each once, then none; as many as the total, also of some thousands.
func TestAllInOrder(t *testing.T) {
	for _, total := range []uint64{1, 2, 10, 1000, 5000} {
		for _, batch := range []uint64{1, 7, 64, 5000, maxBatch} {
			r := made(t, 1, nil, total, batch)
			r.takesTo(0, total)
			for range 3 {
				r.noTake(api.Exhausted)
			}
		}
	}
}

// P21.4: the power lost at each write and at each flush that there is while all numbers are taken, by each kind of choice for each pending write, and opened anew: no number twice, they rise, and one loss skips at most the batch.
func TestPowerAtEach(t *testing.T) {
	for n := 1; n <= 2; n++ {
		for _, total := range []uint64{1, 2, 5, 6} {
			for _, batch := range []uint64{1, 2, 3, 5, 7} {
				steps := int((total+batch-1)/batch) * (n + 1)
				for at := 1; at <= steps; at++ {
					rows.Every((at-1)%(n+1), rows.Choices(), func(choices []byte) {
						g := givenOf(made(t, n, rows.Mixed(11, 1), total, batch))
						g.Plan(api.Plan{Stop: at})
						for g.take() == api.OK {
						}
						g.noTake(api.Down)
						g.Up(choices, api.Plan{})
						g.lost()
						for g.take() == api.OK {
						}
						g.noTake(api.Exhausted)
					})
				}
			}
		}
	}
}

// P21.4: the same with the power lost again and again, at each number of the disk's in turn, by a few choices for each; opened anew each time, till no number is left.
func TestPowerAgainAndAgain(t *testing.T) {
	for n := 1; n <= 2; n++ {
		for _, batch := range []uint64{1, 2, 5} {
			rows.Every(4, []byte{0, 1, 2 + 4*20, 3 + 4*12}, func(choices []byte) {
				for at := 1; at <= 2*n+3; at++ {
					g := givenOf(made(t, n, nil, 20, batch))
					for _, c := range choices {
						g.Plan(api.Plan{Stop: at})
						for g.take() == api.OK {
						}
						g.Up([]byte{c, choices[0]}, api.Plan{})
						g.lost()
					}
					for g.take() == api.OK {
					}
					g.noTake(api.Exhausted)
				}
			})
		}
	}
}

// P21.4: the power lost where nothing is pending, behind each number: all that is reserved, and wasn't given out, is skipped, which is less than the batch.
func TestPowerBehindEach(t *testing.T) {
	for _, batch := range []uint64{1, 2, 3, 4, 7, 30, 100} {
		for each := range uint64(12) {
			g := givenOf(made(t, 1, nil, 30, batch))
			for e := api.OK; e == api.OK; {
				for i := uint64(0); i <= each && e == api.OK; i++ {
					e = g.take()
				}
				was := g.State()
				g.Up(nil, api.Plan{})
				g.lost()
				if g.State().Next != was.Reserved {
					t.Errorf("P21.4: the next is %v, with %v reserved", g.State().Next, was.Reserved)
				}
			}
			g.noTake(api.Exhausted)
		}
	}
}

// P21.4: a flush that failed, the power lost behind it, by each kind of choice: the counter that was, or with more reserved.
func TestPowerBehindFailedFlush(t *testing.T) {
	for _, before := range []int{0, 3, 6} {
		rows.Every(2, rows.Choices(), func(choices []byte) {
			g := givenOf(made(t, 2, rows.Mixed(60, 1), 8, 3))
			for range before {
				g.take()
			}
			g.Up(nil, api.Plan{Fail: []int{3}})
			g.noTake(api.Failed)
			g.Up(choices, api.Plan{})
			g.lost()
			for g.take() == api.OK {
			}
			g.noTake(api.Exhausted)
		})
	}
}

// mixed: numbers that are mixed the same way each time.
func mixed(start uint64) *rand.Rand { return rand.New(rand.NewPCG(start, 21)) }

// mixedRow: so many bytes; mixedPlan: a plan by which something may happen within some saves.
func mixedRow(m *rand.Rand, n int) []byte { return rows.MixedRow(m, n) }
func mixedPlan(m *rand.Rand) api.Plan     { return rows.MixedPlan(m) }

// mixedGiven: a counter of mixed numbers, in areas of 1 to 4 sectors.
func mixedGiven(t *testing.T, m *rand.Rand) *given {
	t.Helper()
	n := m.IntN(4) + 1
	return givenOf(made(t, n, mixedRow(m, m.IntN(min(64*n-28-bareLen, maxHead)+1)), uint64(m.IntN(400)+1), uint64(m.IntN(12)+1)))
}

// P21.4: long scripts of numbers taken, failures and losses of power, torn in all ways, opened anew behind each loss: no number twice, they rise, each below the total, and one loss skips at most the batch.
func TestPowerInLongScripts(t *testing.T) {
	for start := range uint64(300) {
		m := mixed(100 + start)
		for g := mixedGiven(t, m); g.State().Next < g.total; {
			for range m.IntN(30) {
				g.take()
			}
			g.Up(mixedRow(m, m.IntN(6)), mixedPlan(m))
			g.lost()
		}
	}
}

// opens opens the counter anew, with no loss of power, if it can: behind a flush that failed, and what is pending being opened, nothing may be whole (20). Whether it could.
func (g *given) opens() bool {
	g.Helper()
	q := g.anew()
	c, e := reserve.Open(q.Slots)
	if e == api.Down {
		return true
	}
	if e != api.OK {
		if e != api.Corrupt && e != api.NotFound || c != nil {
			g.Fatalf("P21.2: Open: %v", e)
		}
		return false
	}
	q.Counter = c
	g.rig = q
	return true
}

// P21.4: whatever happens: long scripts in which it is opened anew at any time, is used again as it was when the power came again, or is retired in the end, with failures, too: no number twice, they rise, each below the total.
func TestWhateverHappens(t *testing.T) {
	for start := range uint64(600) {
		m := mixed(1000 + start)
		g := mixedGiven(t, m)
		for there := true; there && g.State().Next < g.total; {
			switch m.IntN(40) {
			case 0, 1:
				g.Up(mixedRow(m, m.IntN(6)), mixedPlan(m))
			case 2:
				g.Up(mixedRow(m, m.IntN(6)), mixedPlan(m))
				there = g.opens()
			case 3:
				there = g.opens()
			case 4:
				g.Plan(mixedPlan(m))
			case 5:
				g.Flush()
			case 6:
				if m.IntN(8) == 0 {
					g.Stop()
				}
			case 7:
				if m.IntN(8) == 0 && g.Retire() == api.OK {
					g.noTake(api.Retired)
					there = false
				}
			default:
				g.take()
			}
		}
	}
}

// P21.4: two counters, and three, in slots of one disk: each gives out its own numbers, and keeps its own head, whatever the other ones do; with losses of power between, too.
func TestCountersOnOneDisk(t *testing.T) {
	for start := range uint64(60) {
		m := mixed(5000 + start)
		d := rows.Disk(16)
		var all []*given
		var heads [][]byte
		for i, first := range []int{1, 3, 9} {
			r := on(t, d, first, []int{1, 3, 2}[i])
			heads = append(heads, mixedRow(m, m.IntN(12)))
			r.makes(heads[i], uint64(100+m.IntN(100)), uint64(m.IntN(9)+1))
			all = append(all, givenOf(r))
		}
		for range 150 {
			for range m.IntN(8) {
				all[m.IntN(3)].take()
			}
			if m.IntN(3) > 0 {
				continue
			}
			d.Up(mixedRow(m, m.IntN(6)), mixedPlan(m))
			for i, g := range all {
				g.lost()
				g.is(g.State(), heads[i])
			}
		}
	}
}

// P21.4: of two counters in slots of one disk the one isn't touched by what is done to the other: made, taken of, failing, retired, written over by hand.
func TestCountersApart(t *testing.T) {
	d := rows.Disk(8)
	a, b := on(t, d, 0, 2), on(t, d, 4, 2)
	a.makes([]byte("a"), 9, 4)
	b.noOpen(api.NotFound)
	b.makes([]byte("b"), 7, 2)
	a.takesTo(0, 9)
	a.noTake(api.Exhausted)
	b.takes(0)
	a.retires(api.OK)
	b.takesTo(1, 4)
	d.Up(nil, api.Plan{Fail: []int{1}})
	b.noTake(api.Failed)
	x := api.Counted{Total: 9, Batch: 4, Reserved: 9, Next: 9, Retired: true}
	a.opened().is(x, []byte("a"))
	b.opened().is(api.Counted{Total: 7, Batch: 2, Reserved: 4, Next: 4}, []byte("b"))
	a.lays(0, junk(2))
	a.lays(1, junk(2))
	a.noOpen(api.Corrupt)
	b.takesTo(4, 7)
	b.noTake(api.Exhausted)
	b.opened().is(api.Counted{Total: 7, Batch: 2, Reserved: 7, Next: 7}, []byte("b"))
}
