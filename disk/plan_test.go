package disk_test

import (
	"math"
	"slices"
	"testing"

	"tearoff/api"
)

// none are numbers at which no plan has anything happen, since there is no such write or flush.
var none = []int{0, -1, -2, -3, -64, math.MinInt32, math.MinInt + 1, math.MinInt}

// planned: disks that have a plan from the first write on, by Plan and by Up.
func planned(t *testing.T, sectors int, p api.Plan) []rig {
	t.Helper()
	by, up := made(t, sectors), made(t, sectors)
	by.Plan(p)
	up.Up(nil, p)
	return []rig{by, up}
}

// P19.1: Down is told ahead of Arg, and Arg, which isn't counted, ahead of Failed and of a stop.
func TestOrder(t *testing.T) {
	for _, r := range planned(t, 1, api.Plan{Fail: []int{1}, Stop: 2}) {
		for range 2 {
			r.writes(1, marked(0), api.Arg)
			r.writes(0, marked(0)[1:], api.Arg)
		}
		r.counts(0, 0)
		r.writes(0, marked(0), api.Failed)
		r.writes(-1, marked(0), api.Arg)
		r.writes(0, append(marked(0), 0), api.Arg)
		r.counts(1, 0)
		r.writes(0, marked(0), api.Down)
		r.downed()
		r.counts(2, 0)
		r.Up(nil, api.Plan{})
		r.upright(blank())
	}
}

// P19.1: writes and flushes are counted, those that fail too; not reads, nor what is Arg, nor anything while the disk is down.
func TestCounted(t *testing.T) {
	for _, r := range planned(t, 2, api.Plan{Fail: []int{2, 4}}) {
		r.writes(0, marked(0), api.OK)
		r.counts(1, 1)
		r.writes(1, marked(0), api.Failed)
		r.counts(2, 1)
		r.reads(0, marked(0))
		r.noRead(2, api.Arg)
		r.writes(2, marked(0), api.Arg)
		r.sure(blank(), blank())
		r.counts(2, 1)
		r.flushes(api.OK)
		r.counts(3, 0)
		r.flushes(api.Failed)
		r.counts(4, 0)
		r.writes(1, marked(1), api.OK)
		r.counts(5, 1)
		r.Stop()
		r.counts(5, 1)
		r.downed()
		r.counts(5, 1)
		r.Up(nil, api.Plan{})
		r.counts(0, 0)
	}
}

// P19.1: at the number Stop the power goes, ahead of a write: it is counted, but isn't pending; what is pending stays so.
func TestStopAtWrite(t *testing.T) {
	for stop := 1; stop <= 4; stop++ {
		for _, r := range planned(t, 2, api.Plan{Stop: stop}) {
			for range stop - 1 {
				r.writes(0, marked(0), api.OK)
			}
			r.writes(1, marked(1), api.Down)
			r.counts(stop, stop-1)
			r.downed()
			r.sure(blank(), blank())
			r.Up(whole(1), api.Plan{})
			want := marked(0)
			if stop == 1 {
				want = blank()
			}
			r.upright(want, blank())
		}
	}
}

// P19.1: the same ahead of a flush: nothing gets sure by it, and all that is pending stays so.
func TestStopAtFlush(t *testing.T) {
	for c, want := range map[byte][]byte{0: marked(0), 1: marked(1), 2 + 4*9: joined(9, marked(1), marked(0)), 3 + 4*9: joined(9, marked(0), marked(1))} {
		for _, r := range planned(t, 2, api.Plan{Stop: 4}) {
			r.writes(0, marked(0), api.OK)
			r.flushes(api.OK)
			r.writes(0, marked(1), api.OK)
			r.flushes(api.Down)
			r.counts(4, 1)
			r.sure(marked(0), blank())
			r.downed()
			r.Up([]byte{c}, api.Plan{})
			r.upright(want, blank())
		}
	}
}

// P19.1: with Stop at 0, below it, or past all that is done, the power doesn't go.
func TestNoStop(t *testing.T) {
	for _, stop := range append([]int{21, 256, math.MaxInt32, 1<<32 + 1, 1<<32 + 5, math.MaxInt}, none...) {
		for _, r := range planned(t, 1, api.Plan{Stop: stop}) {
			for i := range 10 {
				r.writes(0, marked(i%4), api.OK)
				r.flushes(api.OK)
			}
			r.counts(20, 0)
		}
	}
}

// turns writes and flushes by turns, so many together, and tells where one hasn't the code that is told for its number, or did another thing than that code says.
func (r rig) turns(n int, at func(i int) api.Code) {
	r.Helper()
	now, sure, pending := blank(), blank(), 0
	for i := 1; i <= n; i++ {
		b := marked(i % 4)
		if i%2 == 1 {
			r.writes(0, b, at(i))
			if at(i) == api.OK {
				now, pending = b, pending+1
			}
		} else {
			r.flushes(at(i))
			if at(i) == api.OK {
				sure, pending = now, 0
			}
		}
		r.reads(0, now)
		r.sure(sure)
		r.counts(i, pending)
	}
}

// P19.1: at the numbers of Fail nothing is done, be they told twice or not in their order; those that are 0, below it, or never come to be, tell of nothing.
func TestFail(t *testing.T) {
	for _, fail := range [][]int{
		nil, {}, {1}, {2}, {3}, {4}, {1, 2}, {2, 1}, {1, 3, 5, 7}, {2, 4, 6, 8}, {8, 6, 4, 2}, {5, 2, 9, 2, 1, 9, 5, 5}, {3, 3, 3},
		{1, 2, 3, 4, 5, 6, 7, 8, 9, 10, 11, 12}, {12, 11, 10, 9, 8, 7, 6, 5, 4, 3, 2, 1}, {100, 3, 1 << 32, 1<<32 + 5, math.MaxInt, 7, -3},
		none, append([]int{6, 3}, none...), append(slices.Clone(none), 3, 6, 4, 0, 3), {0, 1, 0}, {-1, -2, -4},
	} {
		for _, r := range planned(t, 1, api.Plan{Fail: fail}) {
			r.turns(12, func(i int) api.Code {
				if slices.Contains(fail, i) {
					return api.Failed
				}
				return api.OK
			})
		}
	}
}

// P19.1: what failed can be done again, and is done then: by the next number.
func TestFailAgain(t *testing.T) {
	for _, r := range planned(t, 2, api.Plan{Fail: []int{2, 4, 5}}) {
		r.writes(0, marked(0), api.OK)
		r.writes(1, marked(1), api.Failed)
		r.reads(1, blank())
		r.writes(1, marked(1), api.OK)
		r.flushes(api.Failed)
		r.counts(4, 2)
		r.sure(blank(), blank())
		r.flushes(api.Failed)
		r.counts(5, 2)
		r.reads(0, marked(0))
		r.reads(1, marked(1))
		r.flushes(api.OK)
		r.counts(6, 0)
		r.sure(marked(0), marked(1))
	}
}

// P19.1: behind a failing flush each pending write hangs on its own choice still.
func TestFailedFlushLost(t *testing.T) {
	for _, r := range planned(t, 2, api.Plan{Fail: []int{3}}) {
		r.writes(0, marked(0), api.OK)
		r.writes(1, marked(1), api.OK)
		r.flushes(api.Failed)
		r.Up([]byte{0, 1}, api.Plan{})
		r.upright(blank(), marked(1))
	}
}

// P19.1: a number that is both Stop and one of Fail is a stop: Down is told ahead of Failed.
func TestStopAheadOfFail(t *testing.T) {
	for _, fail := range [][]int{{2}, {1, 2, 3}, {3, 2, 2, 1}} {
		for _, flush := range []bool{false, true} {
			for _, r := range planned(t, 1, api.Plan{Fail: fail, Stop: 2}) {
				first := api.OK
				if len(fail) > 1 {
					first = api.Failed
				}
				r.writes(0, marked(0), first)
				_, pending := r.Count()
				if flush {
					r.flushes(api.Down)
				} else {
					r.writes(0, marked(1), api.Down)
				}
				r.counts(2, pending)
				r.downed()
			}
		}
	}
}

// P19.1: a plan in the midst: the count stays, the plan ahead of it doesn't.
func TestPlanInTheMidst(t *testing.T) {
	r := made(t, 2)
	r.Plan(api.Plan{Fail: []int{1, 3, 5}, Stop: 4})
	r.writes(0, marked(0), api.Failed)
	r.writes(0, marked(0), api.OK)
	r.counts(2, 1)
	r.Plan(api.Plan{Fail: []int{1, 2, 4}, Stop: 6})
	r.counts(2, 1)
	r.reads(0, marked(0))
	r.sure(blank(), blank())
	r.writes(1, marked(1), api.OK)
	r.flushes(api.Failed)
	r.flushes(api.OK)
	r.counts(5, 0)
	r.Plan(api.Plan{Stop: 5})
	r.writes(1, marked(2), api.OK)
	r.Plan(api.Plan{})
	r.writes(1, marked(3), api.OK)
	r.counts(7, 2)
	r.Plan(api.Plan{Stop: 8})
	r.flushes(api.Down)
	r.counts(8, 2)
	r.downed()
}

// P19.1: a plan while the disk is down doesn't bring the power again, and changes nothing else either; the power's coming brings a plan of its own.
func TestPlanWhileDown(t *testing.T) {
	r := made(t, 1)
	r.Plan(api.Plan{Stop: 2})
	r.writes(0, marked(0), api.OK)
	r.writes(0, marked(1), api.Down)
	for _, p := range []api.Plan{{}, {Stop: 3}, {Fail: []int{3}}} {
		r.Plan(p)
		r.counts(2, 1)
		r.downed()
		r.sure(blank())
	}
	r.Plan(api.Plan{Fail: []int{1, 2}, Stop: 3})
	r.Up(whole(1), api.Plan{})
	r.upright(marked(0))
	r.writes(0, marked(1), api.OK)
	r.flushes(api.OK)
	r.writes(0, marked(2), api.OK)
	r.counts(3, 1)
}

// P19.1: behind a stop by the plan, and behind Stop, all is Down, and stays so however often it is asked.
func TestBehindStop(t *testing.T) {
	for _, how := range []func(r rig){
		func(r rig) { r.writes(1, marked(1), api.Down) },
		func(r rig) { r.flushes(api.Down) },
		func(r rig) { r.Stop() },
	} {
		r := made(t, 2)
		r.Plan(api.Plan{Stop: 2, Fail: []int{2, 3, 4}})
		r.writes(0, marked(0), api.OK)
		how(r)
		for range 3 {
			r.downed()
			r.sure(blank(), blank())
		}
		r.Up(whole(1), api.Plan{})
		r.upright(marked(0), blank())
	}
}
