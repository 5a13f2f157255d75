package disk_test

import (
	"bytes"
	"math"
	"slices"
	"testing"

	"tearoff/api"
	"tearoff/disk"
)

// far are numbers that are no sector's, nor how many a disk can have: far ones, and such as are alike to some that are by their last bits.
var far = []int{-1, -2, -64, -255, -256, 257, 258, 511, 512, 1 << 16, 1<<16 + 1, math.MaxInt32, math.MinInt32, 1 << 32, 1<<32 + 1, 1<<32 + 256, math.MaxInt - 1, math.MaxInt, math.MinInt + 1, math.MinInt}

// marked: a sector's bytes that n, 0 to 3, marks: at no place are two of them alike, or 0.
func marked(n int) []byte {
	out := make([]byte, api.SectorLen)
	for j := range out {
		out[j] = byte(61*n + j + 1)
	}
	return out
}

// blank: the bytes of a sector that was never written.
func blank() []byte { return make([]byte, api.SectorLen) }

// joined: the first n bytes of a sector, and behind them those of another one.
func joined(n int, first, other []byte) []byte { return slices.Concat(first[:n], other[n:]) }

// rig is a disk with the test that looks at it.
type rig struct {
	*testing.T
	*disk.Disk
}

// made: a disk of so many sectors.
func made(t *testing.T, sectors int) rig {
	t.Helper()
	d, e := disk.New(sectors)
	if e != api.OK || d == nil {
		t.Fatalf("P19.1: New(%v): %v, %v", sectors, d, e)
	}
	return rig{t, d}
}

// writes writes a sector, and tells where the code isn't this one.
func (r rig) writes(i int, b []byte, want api.Code) {
	r.Helper()
	if e := r.Write(i, b); e != want {
		r.Errorf("P19.1: Write(%v, %v bytes): %v, not %v", i, len(b), e, want)
	}
}

// flushes likewise.
func (r rig) flushes(want api.Code) {
	r.Helper()
	if e := r.Flush(); e != want {
		r.Errorf("P19.1: Flush: %v, not %v", e, want)
	}
}

// reads tells where a sector doesn't read so.
func (r rig) reads(i int, want []byte) {
	r.Helper()
	if b, e := r.Read(i); e != api.OK || !bytes.Equal(b, want) {
		r.Errorf("P19.1: Read(%v): %v, %v, not %v", i, b, e, want)
	}
}

// noRead tells where a read doesn't tell this code and nothing else.
func (r rig) noRead(i int, want api.Code) {
	r.Helper()
	if b, e := r.Read(i); e != want || b != nil {
		r.Errorf("P19.1: Read(%v): %v, %v, not %v", i, b, e, want)
	}
}

// counts tells where not so many were counted, or are pending.
func (r rig) counts(counted, pending int) {
	r.Helper()
	if n, m := r.Count(); n != counted || m != pending {
		r.Errorf("P19.2: Count: %v, %v, not %v, %v", n, m, counted, pending)
	}
}

// sure tells where these aren't what the sectors surely are.
func (r rig) sure(want ...[]byte) {
	r.Helper()
	if got := r.Sure(); !slices.EqualFunc(got, want, bytes.Equal) {
		r.Errorf("P19.2: Sure: %v, not %v", got, want)
	}
}

// downed tells where the disk isn't down: each call tells so, ahead of all else, and none is counted.
func (r rig) downed() {
	r.Helper()
	n, m := r.Count()
	for _, i := range append([]int{0, len(r.Sure()) - 1, len(r.Sure())}, far...) {
		r.noRead(i, api.Down)
		r.writes(i, marked(3), api.Down)
		r.writes(i, nil, api.Down)
	}
	r.flushes(api.Down)
	r.counts(n, m)
}

// upright tells where the disk isn't up, or these aren't its sectors, read and sure, with nothing pending and nothing counted.
func (r rig) upright(want ...[]byte) {
	r.Helper()
	for i, b := range want {
		r.reads(i, b)
	}
	r.noRead(len(want), api.Arg)
	r.sure(want...)
	r.counts(0, 0)
}

// whole: of each of n choices that it is there as a whole.
func whole(n int) []byte { return bytes.Repeat([]byte{1}, n) }
