package reserve_test

import (
	"slices"
	"testing"

	"tearoff/api"
	"tearoff/rows"
)

// P21.2: what New makes: one that is open, with none reserved, 0 the next one, not retired; it is saved, byte by byte, by as many writes as an area has sectors, and a flush.
func TestNew(t *testing.T) {
	for _, total := range totals() {
		for _, batch := range batches() {
			for _, head := range heads() {
				r := bare(t, 4)
				r.makes(head, total, batch)
				x := api.Counted{Total: total, Batch: batch}
				r.is(x, head)
				r.counts(5, 0)
				r.sureOf(record(4, 1, bytesOf(x, head)), blank(4))
			}
		}
	}
}

// P21.2: New in areas of each size, with as long a head as there is room for, and with one byte more, though it may be: the slots' Arg, with nothing written.
func TestNewRoom(t *testing.T) {
	for n, most := range []int{0, 11, 75, 139, 200, 200, 200, 200, 200} {
		if n == 0 {
			continue
		}
		r := bare(t, n)
		for size := most + 1; size <= maxHead+1; size++ {
			r.noMake(rows.Mixed(size, 1), 7, 3, api.Arg)
		}
		r.counts(0, 0)
		r.sureOf(blank(n), blank(n))
		head := rows.Mixed(most, 2)
		r.makes(head, 7, 3)
		r.sureOf(record(n, 1, bytesOf(api.Counted{Total: 7, Batch: 3}, head)), blank(n))
		r.takesTo(0, 7)
		r.opened().is(api.Counted{Total: 7, Batch: 3, Reserved: 7, Next: 7}, head)
	}
}

// argued makes what may not be, by the total, the batch, the head, or by several of these: Arg, with nothing done to the disk.
func (r rig) argued() {
	r.Helper()
	n, m := r.Count()
	for _, total := range badTotals() {
		for _, batch := range slices.Concat(batches(), badBatches()) {
			r.noMake([]byte("head"), total, batch, api.Arg)
		}
	}
	for _, batch := range badBatches() {
		for _, total := range totals() {
			r.noMake(nil, total, batch, api.Arg)
		}
	}
	for _, head := range longHeads() {
		r.noMake(head, 7, 3, api.Arg)
		r.noMake(head, 0, 0, api.Arg)
	}
	r.counts(n, m)
}

// P21.2: New of what may not be: Arg, ahead of whatever the disk would tell: on slots on which nobody saved, on which something is whole, on which nothing is, and while the disk is down.
func TestNewArg(t *testing.T) {
	for _, areas := range [][2][]byte{{blank(4), blank(4)}, {record(4, 1, nil), blank(4)}, {junk(4), record(4, 3, []byte("3"))}, {junk(4), junk(4)}} {
		r := bare(t, 4)
		r.lays(0, areas[0])
		r.lays(1, areas[1])
		r.flushes()
		r.argued()
		r.Plan(api.Plan{Fail: []int{10}, Stop: 10})
		r.argued()
		r.Stop()
		r.argued()
		r.sureOf(areas[0], areas[1])
	}
}

// wholes: what is whole where something is: counters, and such as are none.
func wholes() [][]byte {
	return [][]byte{
		bytesOf(api.Counted{Total: 7, Batch: 3}, []byte("head")), bytesOf(api.Counted{Total: 7, Batch: 3, Reserved: 7, Retired: true}, nil),
		bytesOf(api.Counted{}, nil), nil, []byte("no counter"), rows.Mixed(228, 1),
	}
}

// P21.2: New where something is whole, be it a counter or not, in the first area, the second one or both, sure or pending: Exists, with nothing written; also where the slots know it, and where there is no room for the counter.
func TestNewExists(t *testing.T) {
	for _, b := range wholes() {
		is := record(4, 5, b)
		for _, areas := range [][2][]byte{{is, blank(4)}, {blank(4), is}, {is, junk(4)}, {junk(4), is}, {is, is}, {is, record(4, 6, nil)}, {record(4, 6, nil), is}} {
			r := bare(t, 4)
			r.lays(0, areas[0])
			r.lays(1, areas[1])
			r.noMake([]byte("new"), 7, 3, api.Exists)
			r.counts(8, 8)
			r.flushes()
			for range 2 {
				r.noMake([]byte("new"), 7, 3, api.Exists)
				r.counts(9, 0)
				r.sureOf(areas[0], areas[1])
			}
		}
	}
	r := made(t, 1, []byte("first"), 7, 3)
	r.noMake([]byte("first"), 7, 3, api.Exists)
	r.noMake(rows.Mixed(200, 1), 7, 3, api.Exists)
	r.anew().noMake(rows.Mixed(200, 1), 7, 3, api.Exists)
	r.counts(0, 0)
	r.takesTo(0, 7)
}

// P21.2: New behind New: the first one stays, and numbers are taken of it as if nothing had been; likewise where it is exhausted, or retired.
func TestNewTwice(t *testing.T) {
	r := made(t, 2, []byte("head"), 5, 2)
	for n := range uint64(5) {
		r.noMake([]byte("other"), 9, 9, api.Exists)
		r.anew().noMake([]byte("other"), 9, 9, api.Exists)
		r.takes(n)
	}
	r.noTake(api.Exhausted)
	r.noMake([]byte("other"), 9, 9, api.Exists)
	r.retires(api.OK)
	r.noMake([]byte("other"), 9, 9, api.Exists)
	r.opened().is(api.Counted{Total: 5, Batch: 2, Reserved: 5, Next: 5, Retired: true}, []byte("head"))
}

// P21.2: New where no area is whole: if one is blank, it is made in the first area, whatever is there; if none is, Corrupt, with nothing written.
func TestNewWhereNoneIsWhole(t *testing.T) {
	x := api.Counted{Total: 7, Batch: 3}
	torn := slices.Concat(record(2, 5, rows.Mixed(100, 1))[:64], record(2, 3, rows.Mixed(100, 2))[64:])
	for _, areas := range [][2][]byte{{blank(2), blank(2)}, {junk(2), blank(2)}, {torn, blank(2)}, {blank(2), junk(2)}, {blank(2), torn}} {
		r := bare(t, 2)
		r.lays(0, areas[0])
		r.lays(1, areas[1])
		r.makes([]byte("head"), 7, 3)
		r.counts(7, 0)
		r.sureOf(record(2, 1, bytesOf(x, []byte("head"))), areas[1])
		r.takes(0)
		r.opened().is(api.Counted{Total: 7, Batch: 3, Reserved: 3, Next: 3}, []byte("head"))
	}
	for _, areas := range [][2][]byte{{junk(2), junk(2)}, {torn, junk(2)}, {junk(2), torn}, {torn, torn}, {record(2, 0, nil), junk(2)}} {
		r := bare(t, 2)
		r.lays(0, areas[0])
		r.lays(1, areas[1])
		r.flushes()
		for range 2 {
			r.noMake([]byte("head"), 7, 3, api.Corrupt)
			r.noMake(rows.Mixed(200, 1), 7, 3, api.Corrupt)
		}
		r.counts(5, 0)
		r.sureOf(areas[0], areas[1])
	}
}

// P21.2: New on slots that know something that is on the disk no more: what is there counts, so that it is made as if nobody had saved.
func TestNewOnSlotsThatKnow(t *testing.T) {
	r := bare(t, 2)
	for range 3 {
		if e := r.Save([]byte("known")); e != api.OK {
			t.Fatal(e)
		}
	}
	r.lays(0, blank(2))
	r.lays(1, blank(2))
	r.makes([]byte("head"), 7, 3)
	r.sureOf(record(2, 1, bytesOf(api.Counted{Total: 7, Batch: 3}, []byte("head"))), blank(2))
}

// P21.2: New while the disk is down: Down, whatever lies there, with nothing written; when the power comes again it is made, by the same slots.
func TestNewDown(t *testing.T) {
	for _, areas := range [][2][]byte{{blank(1), blank(1)}, {record(1, 1, nil), blank(1)}, {junk(1), junk(1)}} {
		r := bare(t, 1)
		r.lays(0, areas[0])
		r.lays(1, areas[1])
		r.flushes()
		r.Stop()
		for range 2 {
			r.noMake(nil, 7, 3, api.Down)
			r.noMake(rows.Mixed(200, 1), 7, 3, api.Down)
		}
		r.counts(3, 0)
		r.sureOf(areas[0], areas[1])
	}
	r := bare(t, 1)
	r.Stop()
	r.noMake(nil, 7, 3, api.Down)
	r.Up(nil, api.Plan{})
	r.makes(nil, 7, 3)
	r.takesTo(0, 7)
}

// P21.2: New of which a write, or the flush, fails: Failed, and no counter; what was written ahead is pending, and nothing else. Where that isn't whole, it is made by the next New; where it is (all is written that isn't blank), it is there: Exists, and can be opened.
func TestNewFails(t *testing.T) {
	for n := 1; n <= 8; n++ {
		for at := 1; at <= n+1; at++ {
			for _, size := range []int{4, min(64*n-28-bareLen, maxHead)} {
				r, x, head := bare(t, n), api.Counted{Total: 7, Batch: 3}, rows.Mixed(size, 1)
				r.Plan(api.Plan{Fail: []int{at}})
				whole := record(n, 1, bytesOf(x, head))
				left := slices.Concat(whole[:64*(at-1)], blank(n)[64*(at-1):])
				r.noMake(head, 7, 3, api.Failed)
				r.counts(at, at-1)
				r.sureOf(blank(n), blank(n))
				r.holds(left, blank(n))
				if slices.Equal(left, whole) {
					r.noMake(head, 7, 3, api.Exists)
					r.counts(at, at-1)
					r.opened().is(x, head)
					r.Up(nil, api.Plan{})
				}
				r.makes([]byte("again"), 8, 2)
				r.sureOf(record(n, 1, bytesOf(api.Counted{Total: 8, Batch: 2}, []byte("again"))), blank(n))
				r.takesTo(0, 8)
			}
		}
	}
}

// P21.2: New at which the power goes, at each write and at the flush, by each kind of choice for each pending write: Down, and no counter. What is there behind it is the counter as a whole, which can be opened, or nothing, and it can be made.
func TestNewCut(t *testing.T) {
	x, head := api.Counted{Total: 7, Batch: 3}, rows.Mixed(60, 1)
	for at := 1; at <= 3; at++ {
		rows.Every(at-1, rows.Choices(), func(choices []byte) {
			r := bare(t, 2)
			r.Plan(api.Plan{Stop: at})
			r.noMake(head, 7, 3, api.Down)
			r.noMake(head, 7, 3, api.Down)
			r.counts(at, at-1)
			r.sureOf(blank(2), blank(2))
			r.Up(choices, api.Plan{})
			if string(slices.Concat(r.Sure()[1:3]...)) == string(record(2, 1, bytesOf(x, head))) {
				r.noMake(head, 7, 3, api.Exists)
				r = r.opened()
				r.is(x, head)
			} else {
				r.anew().noOpen(api.NotFound)
				r.makes(head, 7, 3)
			}
			r.takesTo(0, 7)
		})
	}
}
