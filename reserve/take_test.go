package reserve_test

import (
	"testing"

	"tearoff/api"
	"tearoff/rows"
)

// P21.3: the chapter's example: by a batch of 4 the first number saves 4 reserved; opened anew, the next one is 4.
func TestExample(t *testing.T) {
	r := made(t, 1, nil, 100, 4)
	r.takes(0)
	x := api.Counted{Total: 100, Batch: 4, Reserved: 4, Next: 1}
	r.is(x, nil)
	r.sureOf(record(1, 1, bytesOf(api.Counted{Total: 100, Batch: 4}, nil)), record(1, 2, bytesOf(x, nil)))
	r.Up(nil, api.Plan{})
	r = r.opened()
	x.Next = 4
	r.is(x, nil)
	r.takes(4)
}

// track is a counter of which numbers are taken, and what is saved of it: in which areas, by which number, and how often the disk was written.
type track struct {
	rig
	x     api.Counted
	head  []byte
	areas [2][]byte
	last  uint64 // the number of the record that counts
	saves int
}

// tracked: what New made, or what was put on the disk as the first record.
func tracked(r rig, x api.Counted, head []byte) *track {
	return &track{rig: r, x: x, head: head, areas: [2][]byte{record(r.n, 1, bytesOf(x, head)), blank(r.n)}, last: 1}
}

// ups: the power comes again, and all is counted anew.
func (k *track) ups(choices []byte, p api.Plan) {
	k.Up(choices, p)
	k.saves = 0
}

// saved: what it is was saved, in the other area.
func (k *track) saved() {
	k.last++
	k.saves++
	k.areas[(k.last-1)%2] = record(k.n, k.last, bytesOf(k.x, k.head))
}

// same tells where the counter, or what is on the disk, isn't as it must be.
func (k *track) same() {
	k.Helper()
	k.is(k.x, k.head)
	k.counts(k.saves*(k.n+1), 0)
	k.sureOf(k.areas[0], k.areas[1])
}

// next takes the next number, ahead of which it is saved, if all that are reserved are taken.
func (k *track) next() {
	k.Helper()
	want := k.x.Next
	if want == k.x.Reserved {
		k.x.Reserved = min(k.x.Total, want+k.x.Batch)
		k.saved()
	}
	k.x.Next++
	k.takes(want)
	k.same()
}

// exhausted tells where a number is taken of a counter that has none, or the disk is written.
func (k *track) exhausted() {
	k.Helper()
	for range 3 {
		k.noTake(api.Exhausted)
		k.same()
	}
	k.Stop()
	k.noTake(api.Exhausted)
	k.ups(nil, api.Plan{})
}

// P21.3: all numbers up to the total, each once, one behind the other, then Exhausted; the disk is written just where all that are reserved are taken, with the batch more reserved, but no more than the total: of batches of 1, of less than the total, that divide it or don't, of the total, of more, and of the greatest.
func TestTakeAll(t *testing.T) {
	for _, total := range []uint64{1, 2, 3, 4, 6, 7, 12, 13} {
		for _, batch := range []uint64{1, 2, 3, 4, 5, 6, 7, 11, 12, 13, 14, maxBatch - 1, maxBatch} {
			for n := 1; n <= 2; n++ {
				k := tracked(made(t, n, []byte("head"), total, batch), api.Counted{Total: total, Batch: batch}, []byte("head"))
				for range total {
					k.next()
				}
				if k.saves != int((total+batch-1)/batch) {
					t.Errorf("P21.3: %v of %v at once: saved %v times", total, batch, k.saves)
				}
				k.exhausted()
			}
		}
	}
}

// P21.3: totals that are greater than the greatest batch, or as great, or less by one: the numbers, and where the disk is written.
func TestTakeGreatBatches(t *testing.T) {
	for _, total := range []uint64{65535, 65536, 65537, 65538 + 65536} {
		for _, batch := range []uint64{65535, 65536} {
			r := made(t, 1, nil, total, batch)
			saves := 0
			for n := range total {
				if n%batch == 0 {
					saves++
				}
				r.takes(n)
				r.counts(2*saves, 0)
				if t.Failed() {
					t.FailNow()
				}
			}
			r.noTake(api.Exhausted)
			r.opened().is(api.Counted{Total: total, Batch: batch, Reserved: total, Next: total}, nil)
		}
	}
}

// P21.3: of the greatest total: the first numbers, and where the disk is written.
func TestTakeOfMost(t *testing.T) {
	for _, batch := range []uint64{1, 3, 256, maxBatch} {
		k := tracked(made(t, 1, nil, maxTotal, batch), api.Counted{Total: maxTotal, Batch: batch}, nil)
		for range 600 {
			k.next()
		}
	}
}

// P21.3: near the end of the greatest total, and of one less, put on the disk by hand: up to the last number, then Exhausted.
func TestTakeNearEnd(t *testing.T) {
	for _, total := range []uint64{maxTotal - 1, maxTotal, 1<<32 + 3, 1 << 32} {
		for _, left := range []uint64{0, 1, 2, 3, 7, 8, 9, 100} {
			for _, batch := range []uint64{1, 2, 4, 8, 9, maxBatch} {
				x := api.Counted{Total: total, Batch: batch, Reserved: total - left, Next: total - left}
				k := tracked(put(t, 1, x, nil), x, nil)
				for range left {
					k.next()
				}
				k.exhausted()
				k.opened().is(k.x, nil)
			}
		}
	}
}

// P21.3: opened anew behind each number, behind each two, and so on: it is gone on with what is reserved, till all numbers are given out or skipped.
func TestTakeOpenedAnew(t *testing.T) {
	for _, total := range []uint64{1, 5, 12, 13} {
		for _, batch := range []uint64{1, 2, 3, 4, 12, 13, maxBatch} {
			for each := uint64(2); each <= 6; each++ {
				k := tracked(made(t, 1, []byte("head"), total, batch), api.Counted{Total: total, Batch: batch}, []byte("head"))
				for i := uint64(0); k.x.Next < total; i++ {
					if i%each == each-1 {
						k.rig, k.x.Next = k.opened(), k.x.Reserved
						k.same()
					} else {
						k.next()
					}
				}
				k.exhausted()
				k.rig = k.opened()
				k.exhausted()
			}
		}
	}
}

// P21.3: numbers that are reserved are given out while the disk is down, too, and whatever a plan says; the first one behind them isn't.
func TestTakeReservedWhileDown(t *testing.T) {
	r := made(t, 1, nil, 10, 4)
	r.takes(0)
	r.Plan(api.Plan{Fail: []int{3}, Stop: 4})
	r.takes(1)
	r.Stop()
	r.takes(2)
	r.takes(3)
	for range 3 {
		r.noTake(api.Down)
		r.counts(2, 0)
	}
	r.Up(nil, api.Plan{})
	r.takesTo(4, 10)
	r.noTake(api.Exhausted)
}

// cutPlan: a plan by which at a number something fails, or the power goes.
func cutPlan(at int, code api.Code) api.Plan {
	if code == api.Down {
		return api.Plan{Stop: at}
	}
	return api.Plan{Fail: []int{at}}
}

// P21.3: a number for which it can't be saved, since a write or the flush fails, or the power goes: none was taken, the state stays, what was written ahead is pending; the next Take tells the same number, saved in the same area: at the first batch, at one between, and at the last one.
func TestTakeCut(t *testing.T) {
	for n := 1; n <= 8; n++ {
		for _, before := range []int{0, 3, 6} {
			for at := 1; at <= n+1; at++ {
				for _, code := range []api.Code{api.Failed, api.Down} {
					k := tracked(made(t, n, []byte("head"), 7, 3), api.Counted{Total: 7, Batch: 3}, []byte("head"))
					for range before {
						k.next()
					}
					k.ups(nil, cutPlan(at, code))
					k.noTake(code)
					k.counts(at, at-1)
					k.sureOf(k.areas[0], k.areas[1])
					if code == api.Down {
						k.noTake(code)
						k.counts(at, at-1)
					}
					k.ups([]byte{0}, api.Plan{})
					k.same()
					for k.x.Next < 7 {
						k.next()
					}
					k.exhausted()
				}
			}
		}
	}
}

// P21.3: a Take that fails again and again, at whatever number, tells the same number when it doesn't any more, with no loss of power between.
func TestTakeFailsOften(t *testing.T) {
	r := made(t, 2, []byte("head"), 7, 3)
	r.takesTo(0, 3)
	r.Up(nil, api.Plan{Fail: []int{1, 3, 6, 8}})
	for _, counted := range [][2]int{{1, 0}, {3, 1}, {6, 3}, {8, 4}} {
		r.noTake(api.Failed)
		r.counts(counted[0], counted[1])
	}
	r.takes(3)
	r.counts(11, 0)
	x := api.Counted{Total: 7, Batch: 3, Reserved: 6, Next: 4}
	r.is(x, []byte("head"))
	r.sureOf(record(2, 3, bytesOf(x, []byte("head"))), record(2, 2, bytesOf(api.Counted{Total: 7, Batch: 3, Reserved: 3}, []byte("head"))))
	r.takesTo(4, 7)
	r.noTake(api.Exhausted)
}

// P21.3: what a Take of which the flush failed left pending can be opened: with more reserved, and none of them given out. The counter itself goes on from where it was.
func TestTakePending(t *testing.T) {
	r := made(t, 1, nil, 20, 3)
	r.takesTo(0, 3)
	r.Up(nil, api.Plan{Fail: []int{2}})
	r.noTake(api.Failed)
	r.is(api.Counted{Total: 20, Batch: 3, Reserved: 3, Next: 3}, nil)
	r.opened().is(api.Counted{Total: 20, Batch: 3, Reserved: 6, Next: 6}, nil)
	r.takesTo(3, 20)
}

// P21.3: Take of a retired one: Retired, whether numbers are left or not, some are reserved, or the disk is down; it isn't written.
func TestTakeRetired(t *testing.T) {
	for taken := range uint64(8) {
		r := made(t, 1, nil, 7, 3)
		r.takesTo(0, taken)
		r.retires(api.OK)
		r.Up(nil, api.Plan{})
		for range 2 {
			r.noTake(api.Retired)
		}
		r.opened().noTake(api.Retired)
		r.counts(0, 0)
		q := r.opened()
		q.Stop()
		r.noTake(api.Retired)
		q.noTake(api.Retired)
	}
	for _, x := range counters() {
		if x.Retired {
			r := put(t, 4, x, rows.Mixed(200, 1))
			r.noTake(api.Retired)
			r.counts(0, 0)
		}
	}
}
