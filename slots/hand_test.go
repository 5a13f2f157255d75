package slots_test

import (
	"bytes"
	"crypto/sha256"
	"math"
	"slices"
	"testing"

	"tearoff/api"
	"tearoff/disk"
	"tearoff/rows"
	"tearoff/slots"
)

// far are numbers that are no area's sectors, nor any disk's: far ones, and such as are alike to some that are by their last bits.
var far = []int{-1, -2, -8, -64, -255, -256, 257, 511, 512, 1 << 16, 1<<16 + 1, math.MaxInt32, math.MinInt32, 1 << 32, 1<<32 + 1, 1<<32 + 8, 1 << 61, 1<<62 + 1, math.MaxInt/2 + 1, math.MaxInt - 16, math.MaxInt - 2, math.MaxInt - 1, math.MaxInt, math.MinInt + 2, math.MinInt + 1, math.MinInt}

// sums is Go's own SHA-256, of which records are put together by hand.
var sums = rows.Sum(func(b []byte) []byte {
	sum := sha256.Sum256(b)
	return sum[:]
})

// record: by hand, a record of a number and bytes, up to the end of an area of n sectors, and the parts of such a one; blank and junk: areas that are none.
var (
	head, summed, filled, record = rows.Head, sums.Summed, rows.Filled, sums.Record
	blank, junk                  = rows.Blank, rows.Junk
)

// text: so many bytes, that mark marks.
func text(size int, mark byte) []byte { return rows.Mixed(size, mark) }

// room: how many bytes a record has room for in an area of n sectors.
func room(n int) int { return 64*n - 28 }

// rig is a disk with slots on it, and the test that looks at them.
type rig struct {
	*testing.T
	*disk.Disk
	*slots.Slots
	first, n int
}

// on: slots on a disk.
func on(t *testing.T, d *disk.Disk, first, n int) rig {
	t.Helper()
	s, e := slots.New(d, first, n)
	if e != api.OK || s == nil {
		t.Fatalf("P20.1: New(%v, %v): %v, %v", first, n, s, e)
	}
	return rig{t, d, s, first, n}
}

// made: slots of n sectors on a disk of their own, with sectors ahead of and behind them.
func made(t *testing.T, n int) rig {
	t.Helper()
	return on(t, rows.Disk(2*n+2), 1, n)
}

// anew: other slots at the same place, that know nothing.
func (r rig) anew() rig {
	r.Helper()
	return on(r.T, r.Disk, r.first, r.n)
}

// lays writes an area's bytes by hand.
func (r rig) lays(area int, b []byte) {
	r.Helper()
	for i := range r.n {
		if e := r.Write(r.first+area*r.n+i, b[64*i:64*i+64]); e != api.OK {
			r.Fatalf("the area %v can't be written: %v", area, e)
		}
	}
}

// flushes flushes the disk by hand.
func (r rig) flushes() {
	r.Helper()
	if e := r.Flush(); e != api.OK {
		r.Fatalf("the disk can't be flushed: %v", e)
	}
}

// saves saves, and tells where the code isn't this one.
func (r rig) saves(b []byte, want api.Code) {
	r.Helper()
	if e := r.Save(b); e != want {
		r.Errorf("P20.3: Save(%v bytes): %v, not %v", len(b), e, want)
	}
}

// knows tells where these aren't the number and the bytes that count.
func (r rig) knows(number uint64, b []byte) {
	r.Helper()
	if c, n := r.Now(); n != number || !bytes.Equal(c, b) {
		r.Errorf("P20.1: Now: %v, %.20x, not %v, %.20x", n, c, number, b)
	}
}

// loads loads, and tells where it isn't this number and these bytes that are loaded, and count then.
func (r rig) loads(number uint64, b []byte) {
	r.Helper()
	if c, n, e := r.Load(); e != api.OK || n != number || !bytes.Equal(c, b) {
		r.Errorf("P20.2: Load: %v, %.20x, %v, not %v, %.20x", n, c, e, number, b)
	}
	r.knows(number, b)
}

// noLoad loads, and tells where it isn't this code that is told, and nothing else.
func (r rig) noLoad(want api.Code) {
	r.Helper()
	if b, n, e := r.Load(); e != want || n != 0 || len(b) != 0 {
		r.Errorf("P20.2: Load: %v, %.20x, %v, not %v", n, b, e, want)
	}
}

// holds tells where the areas don't read so.
func (r rig) holds(first, second []byte) {
	r.Helper()
	for i := range 2 * r.n {
		want := slices.Concat(first, second)[64*i : 64*i+64]
		if b, e := r.Read(r.first + i); e != api.OK || !bytes.Equal(b, want) {
			r.Errorf("P20.3: the sector %v of the areas: %x, %v, not %x", i, b, e, want)
		}
	}
}

// sureOf tells where these aren't what the areas surely are, or a sector ahead of or behind them isn't blank.
func (r rig) sureOf(first, second []byte) {
	r.Helper()
	want := blank(len(r.Sure()))
	copy(want[64*r.first:], slices.Concat(first, second))
	if got := slices.Concat(r.Sure()...); !bytes.Equal(got, want) {
		r.Errorf("P20.3: Sure: %x, not %x", got, want)
	}
}

// counts tells where the disk hasn't counted so many, or has not so many pending.
func (r rig) counts(counted, pending int) {
	r.Helper()
	if n, m := r.Count(); n != counted || m != pending {
		r.Errorf("P20.3: Count: %v, %v, not %v, %v", n, m, counted, pending)
	}
}
