package reserve_test

import (
	"slices"
	"testing"

	"tearoff/api"
	"tearoff/rows"
)

// P21.2: Open of what was put on the disk by hand: the counter, its head, and the next one being what is reserved; nothing is done to the disk.
func TestOpen(t *testing.T) {
	for _, x := range counters() {
		for _, head := range [][]byte{nil, {7}, rows.Mixed(200, 1)} {
			r := put(t, 4, x, head)
			r.is(x, head)
			r.counts(0, 0)
			r.sureOf(record(4, 1, bytesOf(x, head)), blank(4))
		}
	}
}

// P21.2: Open of what New saved, and of what Take saved behind it, each time; by the slots of the counter itself, too.
func TestOpenBehindNewAndTake(t *testing.T) {
	for _, batch := range []uint64{1, 2, 3, 4, 7, 9, maxBatch} {
		r := made(t, 2, []byte("head"), 7, batch)
		r.opened().is(api.Counted{Total: 7, Batch: batch}, []byte("head"))
		for n := range uint64(7) {
			r.takes(n)
			reserved := min(7, (n/batch+1)*batch)
			want := api.Counted{Total: 7, Batch: batch, Reserved: reserved, Next: reserved}
			r.opened().is(want, []byte("head"))
		}
	}
}

// P21.2: Open anew, as often as one likes, with nothing taken between: it is the same each time, and nothing is done to the disk.
func TestOpenOften(t *testing.T) {
	r := made(t, 2, nil, 100, 8)
	r.takes(0)
	for range 5 {
		r = r.opened()
		r.is(api.Counted{Total: 100, Batch: 8, Reserved: 8, Next: 8}, nil)
		r.counts(3, 0)
	}
	r.takes(8)
	r.counts(6, 0)
}

// P21.2: Open of two that are whole: the greater number counts, be it in the first area or in the second, pending or sure.
func TestOpenOfTwo(t *testing.T) {
	x, y := api.Counted{Total: 50, Batch: 8, Reserved: 8, Next: 8}, api.Counted{Total: 50, Batch: 8, Reserved: 16, Next: 16}
	for _, area := range []int{0, 1} {
		r := bare(t, 1)
		r.lays(area, record(1, 8, bytesOf(x, nil)))
		r.lays(1-area, record(1, 9, bytesOf(y, nil)))
		r.opened().is(y, nil)
		r.flushes()
		r = r.opened()
		r.is(y, nil)
		r.lays(1-area, junk(1))
		r = r.opened()
		r.is(x, nil)
		r.takes(8)
		y.Next = 9
		r.is(y, nil)
		y.Next = 16
		r.opened().is(y, nil)
	}
}

// P21.2: Open of slots on which nothing is: NotFound; on which both areas are no record: Corrupt; while the disk is down: Down, whatever lies there. Nothing is done to the disk.
func TestOpenCodes(t *testing.T) {
	torn := slices.Concat(record(2, 5, rows.Mixed(100, 1))[:64], record(2, 3, rows.Mixed(100, 2))[64:])
	for _, c := range []struct {
		first, second []byte
		want          api.Code
	}{
		{blank(2), blank(2), api.NotFound}, {junk(2), blank(2), api.NotFound}, {blank(2), torn, api.NotFound},
		{junk(2), junk(2), api.Corrupt}, {torn, junk(2), api.Corrupt}, {torn, torn, api.Corrupt},
		{record(2, 1, nil), blank(2), api.Short}, {junk(2), record(2, 1, make([]byte, 25)), api.Malformed},
	} {
		r := bare(t, 2)
		r.lays(0, c.first)
		r.lays(1, c.second)
		r.flushes()
		for range 2 {
			r.noOpen(c.want)
		}
		r.Stop()
		r.noOpen(api.Down)
		r.counts(5, 0)
		r.sureOf(c.first, c.second)
		r.Up(nil, api.Plan{})
		r.noOpen(c.want)
	}
	r := made(t, 2, nil, 7, 3)
	r.Stop()
	r.noOpen(api.Down)
	r.anew().noOpen(api.Down)
	r.Up(nil, api.Plan{})
	r.takesTo(0, 7)
}

// P21.2: Open of a record that is no counter: Read's codes, Short and Malformed.
func TestOpenOfNoCounter(t *testing.T) {
	whole := bytesOf(api.Counted{Total: 9, Batch: 2, Reserved: 4}, rows.Mixed(203, 1))
	opens := func(b []byte, want api.Code) {
		t.Helper()
		r := bare(t, 4)
		r.lays(1, record(4, 3, b))
		r.noOpen(want)
	}
	for size := range bareLen {
		opens(whole[:size], api.Short)
	}
	for _, size := range []int{226, 227, 228} {
		opens(whole[:size], api.Malformed)
	}
	for _, mark := range []byte{2, 3, 128, 255} {
		b := slices.Clone(whole[:30])
		b[24] = mark
		opens(b, api.Malformed)
	}
	for _, x := range noCounters() {
		opens(bytesOf(x, []byte("head")), api.Malformed)
	}
}

// P21.2: what counts is what Open tells of: where that is no counter, an older one beside it doesn't.
func TestOpenOlderDoesNotCount(t *testing.T) {
	r := made(t, 2, nil, 7, 3)
	r.lays(1, record(2, 2, []byte("no counter, though of 25 bytes or more")))
	r.noOpen(api.Malformed)
	r.lays(1, record(2, 2, []byte("none")))
	r.noOpen(api.Short)
	r.lays(1, record(2, 1, []byte("none")))
	r.opened().is(api.Counted{Total: 7, Batch: 3}, nil)
}
