package disk_test

import (
	"slices"
	"testing"

	"tearoff/api"
	"tearoff/disk"
)

// P19.2: the chapter's example: Write(0, ..), Up([0]): nothing is there; with [1] all of it.
func TestExample(t *testing.T) {
	r := made(t, 1)
	r.writes(0, marked(0), api.OK)
	r.Up([]byte{0}, api.Plan{})
	r.upright(blank())
	r.writes(0, marked(0), api.OK)
	r.Up([]byte{1}, api.Plan{})
	r.upright(marked(0))
}

// P19.1: a new disk has all its sectors, at first 0, is up, and has nothing counted or pending.
func TestNew(t *testing.T) {
	for _, n := range []int{1, 2, 3, 64, 255, 256} {
		r := made(t, n)
		r.upright(slices.Repeat([][]byte{blank()}, n)...)
		r.writes(0, marked(0), api.OK)
		r.writes(n-1, marked(1), api.OK)
		r.reads(n-1, marked(1))
	}
}

// P19.1: a disk can't have no sector, or more than MaxSectors: Arg, and no disk.
func TestNewArg(t *testing.T) {
	for _, n := range append([]int{0}, far...) {
		if d, e := disk.New(n); e != api.Arg || d != nil {
			t.Errorf("P19.1: New(%v): %v, %v", n, d, e)
		}
	}
}

// P19.1: by a new disk's plan nothing fails, and the power doesn't go.
func TestNewPlan(t *testing.T) {
	r := made(t, 3)
	for i := range 1000 {
		r.writes(i%3, marked(i%4), api.OK)
		r.flushes(api.OK)
	}
	r.counts(2000, 0)
	// The sectors are written last at i of 999, 997 and 998.
	r.sure(marked(3), marked(1), marked(2))
}

// P19.1: each sector reads as its own, the first and the last one too; of others Arg, while the disk is up; Down, of all, while it is down.
func TestRead(t *testing.T) {
	for _, n := range []int{1, 2, 3, 256} {
		r := made(t, n)
		for i := range n {
			r.writes(i, marked(i%4), api.OK)
		}
		for i := range n {
			r.reads(i, marked(i%4))
		}
		for _, i := range append([]int{n}, far...) {
			r.noRead(i, api.Arg)
		}
		r.counts(n, n)
		r.Stop()
		r.downed()
		r.Up(whole(1), api.Plan{})
		for i := range n {
			r.reads(i, marked(i%4))
		}
	}
}

// P19.1: only a sector that there is can be written, and only by SectorLen bytes: Arg, which isn't counted, and changes nothing.
func TestWrite(t *testing.T) {
	long := append(marked(1), marked(2)...)
	for _, n := range []int{1, 2, 3, 256} {
		r := made(t, n)
		r.writes(n-1, marked(0), api.OK)
		for _, size := range []int{0, 1, 8, 32, 63, 65, 127, 128} {
			for _, i := range []int{0, n - 1, n, -1} {
				r.writes(i, long[:size], api.Arg)
			}
		}
		r.writes(0, nil, api.Arg)
		r.writes(0, make([]byte, 256+api.SectorLen), api.Arg)
		r.writes(0, make([]byte, 1<<16+api.SectorLen), api.Arg)
		for _, i := range append([]int{n, n + 1}, far...) {
			r.writes(i, marked(1), api.Arg)
			r.writes(i, nil, api.Arg)
		}
		r.counts(1, 1)
		r.reads(n-1, marked(0))
		r.flushes(api.OK)
		r.writes(0, long[:64], api.OK)
		r.reads(0, marked(1))
		r.counts(3, 1)
	}
}

// P19.1: a sector reads as what was written to it last, pending or not, flushed or not.
func TestReadsLast(t *testing.T) {
	r := made(t, 2)
	r.writes(0, marked(0), api.OK)
	r.reads(0, marked(0))
	r.writes(0, marked(1), api.OK)
	r.reads(0, marked(1))
	r.reads(1, blank())
	r.sure(blank(), blank())
	r.counts(2, 2)
	r.flushes(api.OK)
	r.reads(0, marked(1))
	r.sure(marked(1), blank())
	r.counts(3, 0)
	r.writes(0, marked(2), api.OK)
	r.writes(1, marked(3), api.OK)
	r.reads(0, marked(2))
	r.reads(1, marked(3))
	r.sure(marked(1), blank())
	r.counts(5, 2)
	r.writes(0, marked(1), api.OK)
	r.reads(0, marked(1))
	r.flushes(api.OK)
	r.reads(0, marked(1))
	r.sure(marked(1), marked(3))
	r.counts(7, 0)
}

// P19.1: a write of what a sector holds already is pending, and counted, like any other.
func TestWriteAlike(t *testing.T) {
	r := made(t, 1)
	r.writes(0, blank(), api.OK)
	r.writes(0, blank(), api.OK)
	r.counts(2, 2)
	r.writes(0, marked(0), api.OK)
	r.Up([]byte{1, 0, 1}, api.Plan{})
	r.upright(marked(0))
}

// P19.1: a flush with nothing pending is one too, and so is one behind another.
func TestFlush(t *testing.T) {
	r := made(t, 2)
	r.flushes(api.OK)
	r.sure(blank(), blank())
	r.counts(1, 0)
	r.writes(1, marked(0), api.OK)
	r.flushes(api.OK)
	r.flushes(api.OK)
	r.sure(blank(), marked(0))
	r.reads(1, marked(0))
	r.counts(4, 0)
}

// P19.2: Sure and Count tell the same of what is pending, the disk up or down.
func TestSureAndCount(t *testing.T) {
	r := made(t, 3)
	r.writes(0, marked(0), api.OK)
	r.writes(2, marked(1), api.OK)
	r.flushes(api.OK)
	r.writes(1, marked(2), api.OK)
	r.writes(2, marked(2), api.OK)
	r.writes(2, marked(3), api.OK)
	for range 2 {
		r.sure(marked(0), blank(), marked(1))
		r.counts(6, 3)
		r.Stop()
	}
	r.downed()
	r.sure(marked(0), blank(), marked(1))
	r.counts(6, 3)
	r.Up(whole(1), api.Plan{})
	r.upright(marked(0), marked(2), marked(3))
}

// P19.2: behind Stop the disk is down till the power comes again; to stop it twice is to stop it once.
func TestStop(t *testing.T) {
	r := made(t, 2)
	r.Stop()
	r.downed()
	r.counts(0, 0)
	r.Stop()
	r.downed()
	r.Up(nil, api.Plan{})
	r.upright(blank(), blank())
	r.writes(1, marked(0), api.OK)
	r.flushes(api.OK)
	r.Stop()
	r.downed()
	r.counts(2, 0)
	r.Up(nil, api.Plan{})
	r.upright(blank(), marked(0))
}
