package reserve_test

import (
	"bytes"
	"crypto/sha256"
	"math"
	"slices"
	"testing"

	"tearoff/api"
	"tearoff/disk"
	"tearoff/reserve"
	"tearoff/rows"
	"tearoff/slots"
)

// The most that a counter may be: the bytes of its head, its total, and its batch; and how many bytes it has without a head.
const (
	maxHead  = 200
	maxTotal = 1152921504606846976
	maxBatch = 65536
	bareLen  = 25
)

// sums is Go's own SHA-256, of which records are put together by hand.
var sums = rows.Sum(func(b []byte) []byte {
	sum := sha256.Sum256(b)
	return sum[:]
})

// record: by hand, a record of a number and bytes, up to the end of an area of n sectors; blank and junk: areas that are none; bytesOf: by hand, a counter as bytes.
var record, blank, junk, bytesOf = sums.Record, rows.Blank, rows.Junk, rows.Counter

// mayBe: whether a counter may be, in the chapter's words.
func mayBe(x api.Counted, head []byte) bool {
	return len(head) <= 200 && x.Batch != 0 && x.Batch < 65537 && x.Total != 0 && x.Total < 1152921504606846977 && x.Reserved <= x.Total
}

// heads are of no bytes, of one, and of as many as may be, and near to that; longHeads of more.
func heads() [][]byte {
	return [][]byte{nil, {}, {0}, {1}, []byte("head"), rows.Mixed(199, 2), rows.Mixed(200, 3), bytes.Repeat([]byte{255}, 200), rows.Guarded([]byte("head"))}
}

func longHeads() [][]byte {
	return [][]byte{rows.Mixed(201, 1), make([]byte, 201), rows.Mixed(225, 1), rows.Mixed(256, 2), rows.Mixed(456, 2), rows.Mixed(1<<16, 3), rows.Mixed(1<<16+200, 3)}
}

// totals and batches may be; badTotals and badBatches may not, some of which are alike to such as may be by their last bits.
func totals() []uint64 {
	return []uint64{1, 2, 3, 255, 256, 65535, 65536, 65537, 1 << 32, 1<<32 + 1, 1<<59 + 7, maxTotal - 1, maxTotal}
}

func badTotals() []uint64 {
	return []uint64{0, maxTotal + 1, maxTotal + 2, maxTotal + 65536, 2 * maxTotal, 1 << 62, math.MaxInt64, 1 << 63, 1<<63 + 7, math.MaxUint64 - 1, math.MaxUint64}
}

func batches() []uint64 { return []uint64{1, 2, 3, 4, 255, 256, 65535, 65536} }

func badBatches() []uint64 {
	return []uint64{0, 65537, 65538, 1<<17 - 1, 1 << 17, 1 << 24, 1<<24 + 1, 1 << 32, 1<<32 + 1, 1 << 60, 1 << 63, 1<<63 + 4, math.MaxUint64 - 65535, math.MaxUint64 - 1, math.MaxUint64}
}

// reserveds: how many may be reserved of a total, and how many not.
func reserveds(total uint64) []uint64 { return []uint64{0, 1, total / 2, total - 1, total} }

func badReserveds(total uint64) []uint64 {
	return []uint64{total + 1, total + 2, total + 65536, 1 << 61, 1 << 63, 1<<63 + 1, math.MaxUint64 - 1, math.MaxUint64}
}

// counters are all that may be of these, retired and not, with the next one being what is reserved.
func counters() []api.Counted {
	var out []api.Counted
	for _, total := range totals() {
		for _, batch := range batches() {
			for _, reserved := range reserveds(total) {
				for _, retired := range []bool{false, true} {
					out = append(out, api.Counted{Total: total, Batch: batch, Reserved: reserved, Next: reserved, Retired: retired})
				}
			}
		}
	}
	return slices.DeleteFunc(out, func(x api.Counted) bool { return !mayBe(x, nil) })
}

// noCounters are such as may not be, by one of the numbers or by several.
func noCounters() []api.Counted {
	var out []api.Counted
	add := func(total, batch, reserved uint64) {
		out = append(out, api.Counted{Total: total, Batch: batch, Reserved: reserved}, api.Counted{Total: total, Batch: batch, Reserved: reserved, Retired: true})
	}
	for _, total := range badTotals() {
		for _, reserved := range []uint64{0, 1, total - 1, total, total + 1} {
			add(total, 4, reserved)
			add(total, 0, reserved)
		}
	}
	for _, total := range totals() {
		for _, batch := range badBatches() {
			add(total, batch, 0)
			add(total, batch, total)
		}
		for _, reserved := range badReserveds(total) {
			add(total, 1, reserved)
			add(total, 65536, reserved)
			add(total, 65537, reserved)
		}
	}
	return out
}

// rig is a counter in slots on a disk, and the test that looks at them.
type rig struct {
	*testing.T
	*disk.Disk
	*slots.Slots
	*reserve.Counter
	first, n int
}

// on: slots on a disk that know nothing, and no counter yet.
func on(t *testing.T, d *disk.Disk, first, n int) rig {
	t.Helper()
	s, e := slots.New(d, first, n)
	if e != api.OK {
		t.Fatalf("no slots of %v sectors from %v on: %v", n, first, e)
	}
	return rig{T: t, Disk: d, Slots: s, first: first, n: n}
}

// bare: slots of n sectors on a disk of their own, with a sector ahead of and one behind them, and no counter yet.
func bare(t *testing.T, n int) rig {
	t.Helper()
	return on(t, rows.Disk(2*n+2), 1, n)
}

// made: a counter made in slots of n sectors, the disk's count at 0 behind it.
func made(t *testing.T, n int, head []byte, total, batch uint64) rig {
	t.Helper()
	r := bare(t, n)
	r.makes(head, total, batch)
	r.Up(nil, api.Plan{})
	return r
}

// put: a counter that was put on the disk by hand, in slots of n sectors, and opened.
func put(t *testing.T, n int, x api.Counted, head []byte) rig {
	t.Helper()
	r := bare(t, n)
	r.lays(0, record(n, 1, bytesOf(x, head)))
	r.flushes()
	r.Up(nil, api.Plan{})
	return r.opened()
}

// anew: other slots at the same place, that know nothing, and no counter.
func (r rig) anew() rig {
	r.Helper()
	return on(r.T, r.Disk, r.first, r.n)
}

// opened: the counter opened anew, by other slots.
func (r rig) opened() rig {
	r.Helper()
	r = r.anew()
	c, e := reserve.Open(r.Slots)
	if e != api.OK || c == nil {
		r.Fatalf("P21.2: Open: %v, %v", c, e)
	}
	r.Counter = c
	return r
}

// noOpen opens, and tells where it isn't this code that is told, and nothing else.
func (r rig) noOpen(want api.Code) {
	r.Helper()
	if c, e := reserve.Open(r.Slots); e != want || c != nil {
		r.Errorf("P21.2: Open: %v, %v, not %v", c, e, want)
	}
}

// makes makes a counter in the slots.
func (r *rig) makes(head []byte, total, batch uint64) {
	r.Helper()
	c, e := reserve.New(r.Slots, head, total, batch)
	if e != api.OK || c == nil {
		r.Fatalf("P21.2: New(%.20x, %v, %v): %v, %v", head, total, batch, c, e)
	}
	r.Counter = c
}

// noMake makes a counter, and tells where it isn't this code that is told, and nothing else.
func (r rig) noMake(head []byte, total, batch uint64, want api.Code) {
	r.Helper()
	if c, e := reserve.New(r.Slots, head, total, batch); e != want || c != nil {
		r.Errorf("P21.2: New(%v bytes, %v, %v): %v, %v, not %v", len(head), total, batch, c, e, want)
	}
}

// takes takes a number, and tells where it isn't this one.
func (r rig) takes(want uint64) {
	r.Helper()
	if n, e := r.Take(); n != want || e != api.OK {
		r.Errorf("P21.3: Take: %v, %v, not %v", n, e, want)
	}
}

// takesTo takes numbers from the first one on up to the last one, that isn't taken.
func (r rig) takesTo(first, last uint64) {
	r.Helper()
	for n := first; n < last; n++ {
		r.takes(n)
	}
}

// noTake takes a number, and tells where it isn't this code that is told, or the state isn't what it was, or the head.
func (r rig) noTake(want api.Code) {
	r.Helper()
	was, head := r.State(), r.Head()
	if n, e := r.Take(); n != 0 || e != want {
		r.Errorf("P21.3: Take: %v, %v, not %v", n, e, want)
	}
	r.is(was, head)
}

// retires retires the counter, and tells where it isn't this code that is told, or the state isn't what it must be then.
func (r rig) retires(want api.Code) {
	r.Helper()
	x, head := r.State(), r.Head()
	if e := r.Retire(); e != want {
		r.Errorf("P21.3: Retire: %v, not %v", e, want)
	}
	x.Retired = x.Retired || want == api.OK
	r.is(x, head)
}

// is tells where the counter has another state, or another head.
func (r rig) is(x api.Counted, head []byte) {
	r.Helper()
	if got := r.State(); got != x {
		r.Errorf("P21.3: State: %+v, not %+v", got, x)
	}
	if got := r.Head(); !bytes.Equal(got, head) {
		r.Errorf("P21.3: Head: %x, not %x", got, head)
	}
}

// lays writes an area's bytes by hand.
func (r rig) lays(area int, b []byte) {
	r.Helper()
	for i := range r.n {
		if e := r.Write(r.first+area*r.n+i, b[64*i:64*i+64]); e != api.OK {
			r.Fatalf("the area %v can't be written: %v", area, e)
		}
	}
}

// flushes flushes the disk by hand.
func (r rig) flushes() {
	r.Helper()
	if e := r.Flush(); e != api.OK {
		r.Fatalf("the disk can't be flushed: %v", e)
	}
}

// sureOf tells where these aren't what the areas surely are, or a sector ahead of or behind them isn't blank.
func (r rig) sureOf(first, second []byte) {
	r.Helper()
	want := make([]byte, 64*len(r.Sure()))
	copy(want[64*r.first:], slices.Concat(first, second))
	if got := slices.Concat(r.Sure()...); !bytes.Equal(got, want) {
		r.Errorf("P21: Sure: %x, not %x", got, want)
	}
}

// holds tells where the areas don't read so.
func (r rig) holds(first, second []byte) {
	r.Helper()
	want := slices.Concat(first, second)
	for i := range 2 * r.n {
		if b, e := r.Read(r.first + i); e != api.OK || !bytes.Equal(b, want[64*i:64*i+64]) {
			r.Errorf("P21: the sector %v of the areas: %x, %v, not %x", i, b, e, want[64*i:64*i+64])
		}
	}
}

// counts tells where the disk hasn't counted so many, or has not so many pending.
func (r rig) counts(counted, pending int) {
	r.Helper()
	if n, m := r.Count(); n != counted || m != pending {
		r.Errorf("P21: Count: %v, %v, not %v, %v", n, m, counted, pending)
	}
}
