package slots_test

import (
	"bytes"
	"encoding/hex"
	"math"
	"slices"
	"testing"

	"tearoff/api"
	"tearoff/rows"
	"tearoff/slots"
)

// P20.3: the chapter's example: saved twice, the first area has the number 1, the second 2.
func TestExample(t *testing.T) {
	r := made(t, 1)
	r.saves([]byte("one"), api.OK)
	r.saves([]byte("two"), api.OK)
	sure := r.Sure()
	for area, number := range []byte{1, 2} {
		if got := sure[r.first+area][:8]; !bytes.Equal(got, []byte{0, 0, 0, 0, 0, 0, 0, number}) {
			t.Errorf("P20.3: the number of the area %v: %v", area, got)
		}
	}
}

// P20.3: records written out, byte by byte, with their sums' first bytes as they were worked out elsewhere.
func TestRecordsWrittenOut(t *testing.T) {
	r := made(t, 1)
	r.saves([]byte("one"), api.OK)
	r.saves(nil, api.OK)
	one, none := make([]byte, 64), make([]byte, 64)
	for text, area := range map[string][]byte{
		"0000000000000001" + "00000003" + "6f6e65" + "75ebdc418428ae4ed473ab8091e232a4": one,
		"0000000000000002" + "00000000" + "6cf3a1796a1e780039b65b88a78ab7fd":            none,
	} {
		if _, err := hex.Decode(area, []byte(text)); err != nil {
			t.Fatal(err)
		}
	}
	r.sureOf(one, none)
	r.anew().loads(2, nil)
	if !bytes.Equal(record(1, 1, []byte("one")), one) || !bytes.Equal(record(1, 2, nil), none) {
		t.Error("the records by hand aren't those written out")
	}
}

// P20.1: how many bytes a record may have, of each n that may be; of all others 0.
func TestRoom(t *testing.T) {
	for n, want := range []int{0, 36, 100, 164, 228, 292, 356, 420, 484, 0, 0, 0} {
		if got := slots.Room(n); got != want {
			t.Errorf("P20.1: Room(%v): %v, not %v", n, got, want)
		}
	}
	for _, n := range append([]int{16, 64, 255, 256}, far...) {
		if got := slots.Room(n); got != 0 {
			t.Errorf("P20.1: Room(%v): %v, not 0", n, got)
		}
	}
}

// P20.1: New from every sector on, of every n, on disks of one sector and of many, up and down: slots that know nothing, where both areas have room; Arg, and no slots, anywhere else.
func TestNew(t *testing.T) {
	for _, sectors := range []int{1, 2, 3, 4, 15, 16, 17, 18, 255, 256} {
		for _, down := range []bool{false, true} {
			d := rows.Disk(sectors)
			if down {
				d.Stop()
			}
			for n := -1; n <= 10; n++ {
				for first := -2 * n; first <= sectors+1; first++ {
					may := n >= 1 && n <= 8 && first >= 0 && first+2*n <= sectors
					s, e := slots.New(d, first, n)
					if may != (e == api.OK) || may != (s != nil) || !may && e != api.Arg {
						t.Fatalf("P20.1: New(%v, %v) on %v sectors, down %v: %v, %v", first, n, sectors, down, s, e)
					}
					if may {
						rig{t, d, s, first, n}.knows(0, nil)
					}
				}
			}
		}
	}
}

// noSlots tells where slots are made that may not be.
func noSlots(t *testing.T, r rig, first, n int) {
	t.Helper()
	if s, e := slots.New(r.Disk, first, n); e != api.Arg || s != nil {
		t.Errorf("P20.1: New(%v, %v) on %v sectors: %v, %v", first, n, len(r.Sure()), s, e)
	}
}

// P20.1: New of numbers that are far off, the least and the greatest one, alone and both: Arg, the disk up or down.
func TestNewFar(t *testing.T) {
	for _, sectors := range []int{2, 16, 17, 256} {
		r := on(t, rows.Disk(sectors), 0, 1)
		for range 2 {
			for _, v := range append([]int{256}, far...) {
				for n := 1; n <= 8; n++ {
					noSlots(t, r, v, n)
				}
				for first := range 16 {
					noSlots(t, r, first, v)
				}
				for _, w := range far {
					noSlots(t, r, v, w)
				}
			}
			for _, n := range []int{0, 9} {
				for _, first := range []int{0, 1, -1, math.MaxInt, math.MinInt} {
					noSlots(t, r, first, n)
				}
			}
			r.Stop()
		}
	}
}

// P20.1: New does nothing to the disk, and reads nothing: what is there isn't known.
func TestNewDoesNothing(t *testing.T) {
	r := made(t, 2)
	r.saves([]byte("saved"), api.OK)
	r.lays(1, record(2, 7, []byte("pending")))
	r.counts(5, 2)
	q := r.anew()
	noSlots(t, r, 3, 2)
	noSlots(t, r, 0, 9)
	q.knows(0, nil)
	r.knows(1, []byte("saved"))
	r.counts(5, 2)
	r.sureOf(record(2, 1, []byte("saved")), blank(2))
}

// P20.1: slots from the first sector on, and from the last one from which there is room, can be used, of every n.
func TestEnds(t *testing.T) {
	for n := 1; n <= 8; n++ {
		for _, sectors := range []int{2 * n, 2*n + 1, 64, 256} {
			for _, first := range []int{0, sectors - 2*n} {
				r := on(t, rows.Disk(sectors), first, n)
				one, two := text(room(n), 1), text(room(n), 2)
				r.saves(one, api.OK)
				r.saves(two, api.OK)
				r.sureOf(record(n, 1, one), record(n, 2, two))
				r.anew().loads(2, two)
			}
		}
	}
}

// P20.1: Now of slots that know nothing, behind Save, behind Load, and behind either of them that told a code.
func TestNow(t *testing.T) {
	r := made(t, 2)
	r.knows(0, nil)
	r.noLoad(api.NotFound)
	r.knows(0, nil)
	r.saves(make([]byte, room(2)+1), api.Arg)
	r.knows(0, nil)
	r.Plan(api.Plan{Fail: []int{1}, Stop: 8})
	r.saves([]byte("failed"), api.Failed)
	r.knows(0, nil)
	r.saves([]byte("one"), api.OK)
	r.knows(1, []byte("one"))
	r.saves([]byte("two"), api.OK)
	r.knows(2, []byte("two"))
	r.saves(nil, api.Down)
	r.knows(2, []byte("two"))
	r.noLoad(api.Down)
	r.knows(2, []byte("two"))
	r.Up(nil, api.Plan{})
	r.knows(2, []byte("two"))
	r.lays(1, record(2, 9, []byte("nine")))
	r.knows(2, []byte("two"))
	r.loads(9, []byte("nine"))
	r.saves(nil, api.OK)
	r.knows(10, nil)
	r.lays(0, junk(2))
	r.lays(1, junk(2))
	r.knows(10, nil)
	r.noLoad(api.Corrupt)
	r.knows(0, nil)
	r.lays(0, record(2, 3, []byte("three")))
	r.loads(3, []byte("three"))
	r.lays(0, blank(2))
	r.noLoad(api.NotFound)
	r.knows(0, nil)
}

// P20.3: two slots on one disk, one behind the other, don't disturb each other, nor the sectors ahead of and behind them.
func TestTwoSlots(t *testing.T) {
	for _, n := range []int{1, 3} {
		for _, m := range []int{1, 2} {
			d := rows.Disk(2*n + 2*m + 2)
			ahead, behind := text(64, 1), text(64, 2)
			d.Write(0, ahead)
			d.Write(2*n+2*m+1, behind)
			r, q := on(t, d, 1, n), on(t, d, 1+2*n, m)
			for i := range byte(9) {
				r.saves(text(room(n), 10+i), api.OK)
				if i%2 == 0 {
					q.saves(text(room(m), 40+i/2), api.OK)
				}
				r.knows(uint64(i)+1, text(room(n), 10+i))
				q.knows(uint64(i)/2+1, text(room(m), 40+i/2))
			}
			want := slices.Concat(ahead, record(n, 9, text(room(n), 18)), record(n, 8, text(room(n), 17)), record(m, 5, text(room(m), 44)), record(m, 4, text(room(m), 43)), behind)
			if got := slices.Concat(d.Sure()...); !bytes.Equal(got, want) {
				t.Errorf("P20.3: two slots, of %v and %v sectors: %x, not %x", n, m, got, want)
			}
			r.lays(0, junk(n))
			r.lays(1, junk(n))
			r.noLoad(api.Corrupt)
			q.loads(5, text(room(m), 44))
			q.knows(5, text(room(m), 44))
			r.knows(0, nil)
		}
	}
}

// P20.1: other slots at the same place know nothing of what these know: each of them knows what it saved or loaded itself.
func TestOthersAtOnePlace(t *testing.T) {
	r := made(t, 1)
	q := r.anew()
	r.saves([]byte("a"), api.OK)
	q.knows(0, nil)
	q.loads(1, []byte("a"))
	r.saves([]byte("b"), api.OK)
	q.knows(1, []byte("a"))
	q.saves([]byte("c"), api.OK)
	q.knows(2, []byte("c"))
	r.knows(2, []byte("b"))
	r.sureOf(record(1, 1, []byte("a")), record(1, 2, []byte("c")))
}
