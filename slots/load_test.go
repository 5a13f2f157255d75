package slots_test

import (
	"bytes"
	"math"
	"slices"
	"testing"

	"tearoff/api"
	"tearoff/rows"
)

// area is what may lie in an area, and whether it is whole, or blank.
type area struct {
	what   string
	b      []byte
	number uint64
	told   []byte
	whole  bool
}

// wholes: areas that are records; the last two have alike numbers, but other bytes.
func wholes(n int) []area {
	var out []area
	for i, number := range []uint64{1, 2, 3, 255, 256, 1 << 31, 1 << 32, 1<<32 + 1, 1 << 63, math.MaxUint64 - 1, math.MaxUint64, 2, 2} {
		b := text(i*3%room(n), byte(i))
		out = append(out, area{"whole", record(n, number, b), number, b, true})
	}
	return out
}

// broken: areas that are neither records nor blank: torn ones, of no record at all, and of the number 0, that no record has.
func broken(n int) []area {
	was, is := record(n, 5, text(room(n), 1)), record(n, 7, text(room(n)-1, 2))
	out := []area{{what: "junk", b: junk(n)}, {what: "the number 0", b: record(n, 0, []byte("nought"))}, {what: "the number 0, of no bytes", b: record(n, 0, nil)}}
	for _, at := range []int{8, 11, 12, 40, 64*n - 10} {
		out = append(out, area{what: "torn", b: slices.Concat(is[:at], was[at:])}, area{what: "torn", b: slices.Concat(was[:at], is[at:])}, area{what: "torn", b: slices.Concat(is[:at], blank(n)[at:])})
	}
	for _, at := range []int{0, 7, 11, 12, 27, 28, 64*n - 1} {
		b := blank(n)
		b[at] = 1
		out = append(out, area{what: "one byte", b: b})
	}
	return out
}

// P20.2: two areas that are whole, the greater number in the first, or in the second: it counts; of alike numbers the first.
func TestLoadTwoWhole(t *testing.T) {
	for n := 1; n <= 3; n++ {
		for _, a := range wholes(n) {
			for _, b := range wholes(n) {
				r := made(t, n)
				r.lays(0, a.b)
				r.lays(1, b.b)
				want := a
				if b.number > a.number {
					want = b
				}
				r.loads(want.number, want.told)
				r.counts(2*n, 2*n)
				r.holds(a.b, b.b)
			}
		}
	}
}

// P20.2: one area that is whole, the first or the second: it counts, whatever the other one is.
func TestLoadOneWhole(t *testing.T) {
	for n := 1; n <= 3; n++ {
		for _, a := range wholes(n) {
			for _, b := range append(broken(n), area{what: "blank", b: blank(n)}) {
				for _, order := range [][2][]byte{{a.b, b.b}, {b.b, a.b}} {
					r := made(t, n)
					r.lays(0, order[0])
					r.lays(1, order[1])
					r.loads(a.number, a.told)
					if t.Failed() {
						t.Fatalf("P20.2: beside %v, %x", b.what, b.b)
					}
				}
			}
		}
	}
}

// P20.2: no area that is whole: NotFound, if one of them is blank, or both are, be it written so or never written; else Corrupt. Nothing is known then, whatever was.
func TestLoadNoneWhole(t *testing.T) {
	for n := 1; n <= 3; n++ {
		all := append(broken(n), area{what: "blank", b: blank(n)})
		r := made(t, n)
		r.noLoad(api.NotFound)
		for i, a := range all {
			for j, b := range all {
				want := api.Corrupt
				if i == len(all)-1 || j == len(all)-1 {
					want = api.NotFound
				}
				r.saves([]byte("known"), api.OK)
				r.lays(0, a.b)
				r.lays(1, b.b)
				r.noLoad(want)
				r.knows(0, nil)
				if t.Failed() {
					t.Fatalf("P20.2: of %v and %v, %x and %x", a.what, b.what, a.b, b.b)
				}
			}
		}
	}
}

// P20.3: what is saved where nothing is known, behind NotFound or Corrupt, has the number 1, and lies in the first area.
func TestSaveBehindNone(t *testing.T) {
	for _, order := range [][2][]byte{{blank(2), blank(2)}, {junk(2), blank(2)}, {blank(2), junk(2)}, {junk(2), junk(2)}} {
		r := made(t, 2)
		r.saves([]byte("a"), api.OK)
		r.saves([]byte("b"), api.OK)
		r.saves([]byte("c"), api.OK)
		r.lays(0, order[0])
		r.lays(1, order[1])
		if _, _, e := r.Load(); e == api.OK {
			t.Error("P20.2: Load of none that is whole")
		}
		r.saves([]byte("new"), api.OK)
		r.knows(1, []byte("new"))
		r.sureOf(record(2, 1, []byte("new")), order[1])
	}
}

// P20.2: an area with one bit turned, wherever it lies (in the number, the length, the bytes, the sum, or the bytes 0 behind it), is no record.
func TestOneBit(t *testing.T) {
	for _, c := range []struct {
		n, size int
		number  uint64
	}{{1, 0, 1}, {1, 1, 2}, {1, 20, 3}, {1, 36, math.MaxUint64}, {2, 0, 1}, {2, 40, 4}, {2, 52, 1 << 40}, {2, 100, 2}, {3, 99, 77}} {
		is := record(c.n, c.number, text(c.size, 3))
		for bit := range 8 * len(is) {
			r := made(t, c.n)
			r.lays(0, rows.TurnedBit(is, bit))
			r.noLoad(api.NotFound)
			r.lays(1, rows.TurnedBit(is, bit))
			r.noLoad(api.Corrupt)
			r.lays(1, is)
			r.loads(c.number, text(c.size, 3))
			if t.Failed() {
				t.Fatalf("P20.2: the bit %v of a record of %v bytes in %v sectors", bit, c.size, c.n)
			}
		}
	}
}

// P20.2: the bytes 0 behind a record are 0 all the way: one other byte, whatever it is, makes it none.
func TestBehindRecord(t *testing.T) {
	for n := 1; n <= 3; n++ {
		for _, size := range []int{0, 5, room(n) - 1} {
			for at := 28 + size; at < 64*n; at++ {
				for _, c := range []byte{1, 128, 255} {
					b := record(n, 4, text(size, 1))
					b[at] = c
					r := made(t, n)
					r.lays(1, b)
					r.noLoad(api.NotFound)
				}
			}
		}
	}
}

// sizes: lengths that an area of n sectors has no room for, up to the greatest; some are alike to such as it has room for by their last bits, or by what they are with the record's other parts.
func sizes(n int) []uint32 {
	out := []uint32{1 << 8 * 3, 1<<16 + 1, 1 << 31, 1<<31 + 1, math.MaxUint32 - 28, math.MaxUint32 - 27, math.MaxUint32 - 16, math.MaxUint32 - 12, math.MaxUint32 - 11, math.MaxUint32 - 1, math.MaxUint32}
	for size := room(n) + 1; size <= 64*(2*n+1); size++ {
		out = append(out, uint32(size))
	}
	for size := range room(n) + 1 {
		out = append(out, 1<<16+uint32(size), 1<<24+uint32(size), 1<<31+uint32(size))
	}
	return out
}

// P20.2: an area with a length greater than it has room for is no record, whatever the bytes behind it are: a right sum of all that is there, or as much of one as there is room for.
func TestGreatLength(t *testing.T) {
	for n := 1; n <= 3; n++ {
		b := text(64*n, 5)
		for _, size := range sizes(n) {
			top := head(6, size)
			short := int(size % (1 << 16) % uint32(room(n)+1))
			for _, area := range [][]byte{
				slices.Concat(top, b),
				summed(top, b[:room(n)]),
				filled(n, summed(top, b[:short])),
				filled(n, summed(top)),
				slices.Concat(top, summed(top, b[:64*n-12])),
			} {
				r := made(t, n)
				r.lays(0, area[:64*n])
				r.noLoad(api.NotFound)
				r.lays(1, area[:64*n])
				r.noLoad(api.Corrupt)
				if t.Failed() {
					t.Fatalf("P20.2: the length %v in %v sectors", size, n)
				}
			}
		}
	}
}

// P20.2: a record that lies across both areas, or goes on into the sectors behind them, is none of either.
func TestAcross(t *testing.T) {
	for n := 1; n <= 4; n++ {
		for size := room(n) + 1; size <= room(2*n); size++ {
			r := on(t, rows.Disk(4*n), 0, n)
			is := record(2*n, 8, text(size, 7))
			want := api.Corrupt
			if bytes.Equal(is[64*n:], blank(n)) {
				want = api.NotFound
			}
			r.lays(0, is[:64*n])
			r.lays(1, is[64*n:])
			r.noLoad(want)
			r.lays(0, blank(n))
			r.lays(1, is[:64*n])
			q := on(t, r.Disk, 2*n, n)
			q.lays(0, is[64*n:])
			r.noLoad(api.NotFound)
		}
	}
}

// P20.2: what is a record in areas of fewer sectors is one in areas of more, with bytes 0 behind it, and not elsewhere.
func TestOtherSectors(t *testing.T) {
	d := rows.Disk(8)
	few, more := on(t, d, 0, 1), on(t, d, 0, 2)
	few.saves([]byte("a"), api.OK)
	more.loads(1, []byte("a"))
	few.saves([]byte("b"), api.OK)
	more.noLoad(api.NotFound)
	on(t, d, 1, 2).loads(2, []byte("b"))
	on(t, d, 2, 2).noLoad(api.NotFound)
}

// P20.2: what is pending is loaded, and what is flushed; behind a power's end what is there then.
func TestLoadPending(t *testing.T) {
	one, two := record(2, 4, []byte("four")), record(2, 5, text(room(2), 1))
	for choice, want := range map[byte]uint64{0: 4, 1: 5, 2 + 4*30: 4, 3 + 4*30: 4} {
		r := made(t, 2)
		r.lays(0, one)
		r.loads(4, []byte("four"))
		r.flushes()
		r.loads(4, []byte("four"))
		r.lays(1, two)
		r.loads(5, text(room(2), 1))
		r.counts(5, 2)
		r.sureOf(one, blank(2))
		r.Up([]byte{choice}, api.Plan{})
		told := map[uint64][]byte{4: []byte("four"), 5: text(room(2), 1)}[want]
		r.loads(want, told)
		r.anew().loads(want, told)
		r.counts(0, 0)
	}
}

// P20.2: a record of which a sector is pending, and another one sure, is whole as it reads, and what the power's end leaves of it behind that.
func TestLoadHalfPending(t *testing.T) {
	is := record(2, 3, text(room(2), 2))
	r := made(t, 2)
	r.Write(r.first, is[:64])
	r.flushes()
	r.noLoad(api.NotFound)
	r.Write(r.first+1, is[64:])
	r.loads(3, text(room(2), 2))
	r.Up(nil, api.Plan{})
	r.knows(3, text(room(2), 2))
	r.noLoad(api.NotFound)
	r.knows(0, nil)
}

// P20.2: while the disk is down: Down, and what is known stays, be it something or nothing.
func TestLoadDown(t *testing.T) {
	r := made(t, 2)
	r.lays(0, record(2, 6, []byte("six")))
	r.flushes()
	r.Stop()
	r.noLoad(api.Down)
	r.knows(0, nil)
	r.counts(3, 0)
	r.Up(nil, api.Plan{})
	r.loads(6, []byte("six"))
	r.lays(1, record(2, 7, []byte("seven")))
	r.Stop()
	for range 2 {
		r.noLoad(api.Down)
		r.knows(6, []byte("six"))
		r.counts(2, 2)
	}
	r.Up([]byte{1}, api.Plan{})
	r.knows(6, []byte("six"))
	r.loads(7, []byte("seven"))
}

// P20.2: Load writes nothing and flushes nothing: no plan has it fail, and the power doesn't go by it.
func TestLoadIsNotCounted(t *testing.T) {
	r := made(t, 1)
	r.saves([]byte("a"), api.OK)
	r.Up(nil, api.Plan{Fail: []int{1, 2, 3}, Stop: 4})
	for range 5 {
		r.loads(1, []byte("a"))
		r.anew().loads(1, []byte("a"))
		r.counts(0, 0)
	}
}

// P20.2: Load reads anew each time: what was loaded ahead of it, or saved, doesn't count where it isn't there any more, or something greater is.
func TestLoadAnew(t *testing.T) {
	r := made(t, 1)
	r.saves([]byte("a"), api.OK)
	r.saves([]byte("b"), api.OK)
	r.lays(1, blank(1))
	r.loads(1, []byte("a"))
	r.lays(1, record(1, 1, []byte("alike")))
	r.loads(1, []byte("a"))
	r.lays(0, junk(1))
	r.loads(1, []byte("alike"))
	r.lays(0, record(1, 2, []byte("c")))
	r.loads(2, []byte("c"))
	if !bytes.Equal(r.Sure()[r.first+1], record(1, 2, []byte("b"))) {
		t.Error("P20.2: what was flushed ahead of the loads isn't sure")
	}
}
