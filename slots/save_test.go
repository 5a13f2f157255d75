package slots_test

import (
	"math"
	"slices"
	"testing"

	"tearoff/api"
)

// P20.3: records of every size, in areas of every n, are those put together by hand, byte by byte; wherever their parts cross from one sector into the next.
func TestRecords(t *testing.T) {
	for n := 1; n <= 8; n++ {
		r := made(t, n)
		areas, number := [][]byte{junk(n), junk(n)}, uint64(0)
		r.lays(0, junk(n))
		r.lays(1, junk(n))
		for size := range room(n) + 1 {
			b := text(size, byte(size))
			r.saves(b, api.OK)
			number++
			areas[size%2] = record(n, number, b)
			r.knows(number, b)
			r.holds(areas[0], areas[1])
			r.sureOf(areas[0], areas[1])
			r.anew().loads(number, b)
			if t.Failed() {
				t.Fatalf("P20.3: %v bytes in %v sectors", size, n)
			}
		}
		r.counts(2*n+room(n)+1+n*(room(n)+1), 0)
	}
}

// P20.3: bytes of any values: all 0, all 255, and such as are a record themselves.
func TestSavedBytes(t *testing.T) {
	for _, b := range [][]byte{make([]byte, room(2)), slices.Repeat([]byte{255}, room(2)), make([]byte, 1), record(1, 9, []byte("within")), record(1, math.MaxUint64, nil)} {
		r := made(t, 2)
		r.saves(b, api.OK)
		r.sureOf(record(2, 1, b), blank(2))
		r.anew().loads(1, b)
	}
}

// P20.3: Room's bytes are saved; one more, or many more: Arg, with nothing counted, and what counted counts.
func TestSaveArg(t *testing.T) {
	for n := 1; n <= 8; n++ {
		r := made(t, n)
		for round := range uint64(3) {
			for _, size := range []int{room(n) + 1, room(n) + 2, 64 * n, 64*n + 1, 128 * n, 256 + room(n), 1 << 16, 1<<16 + 1, 1<<16 + room(n), 1 << 20} {
				r.saves(make([]byte, size), api.Arg)
			}
			r.counts(int(round)*(n+1), 0)
			if round == 0 {
				r.knows(0, nil)
				r.sureOf(blank(n), blank(n))
			} else {
				r.knows(round, text(room(n), byte(round)))
			}
			b := text(room(n), byte(round)+1)
			r.saves(b, api.OK)
			r.knows(round+1, b)
		}
		r.sureOf(record(n, 3, text(room(n), 3)), record(n, 2, text(room(n), 2)))
	}
}

// P20.3: Arg is told ahead of Down and of Failed, and isn't counted: what a plan tells of waits for the next one.
func TestArgFirst(t *testing.T) {
	r := made(t, 1)
	r.Plan(api.Plan{Fail: []int{1}, Stop: 2})
	long := make([]byte, room(1)+1)
	r.saves(long, api.Arg)
	r.counts(0, 0)
	r.saves(nil, api.Failed)
	r.saves(long, api.Arg)
	r.counts(1, 0)
	r.saves(nil, api.Down)
	r.saves(long, api.Arg)
	r.counts(2, 0)
	r.knows(0, nil)
}

// P20.3: the first save has the number 1 and lies in the first area, the second 2 and lies in the second one, the third 3 and lies in the first one, and so on; the area that counts isn't touched.
func TestTurns(t *testing.T) {
	for _, n := range []int{1, 2, 8} {
		r := made(t, n)
		areas := [][]byte{blank(n), blank(n)}
		for i := range 10 {
			b := text(10+i, byte(i))
			r.saves(b, api.OK)
			areas[i%2] = record(n, uint64(i)+1, b)
			r.knows(uint64(i)+1, b)
			r.sureOf(areas[0], areas[1])
			r.counts((n+1)*(i+1), 0)
		}
	}
}

// P20.3: the same bytes saved again are a record of their own, with the next number.
func TestSaveAlike(t *testing.T) {
	r := made(t, 1)
	for i := range uint64(4) {
		r.saves([]byte("same"), api.OK)
		r.knows(i+1, []byte("same"))
	}
	r.sureOf(record(1, 3, []byte("same")), record(1, 4, []byte("same")))
}

// P20.3: behind a load the area that doesn't count is written, with the next number, whichever it is, and whatever is in it.
func TestSaveBehindLoad(t *testing.T) {
	for _, c := range []struct {
		first, second []byte
		number        uint64
		area          int
	}{
		{record(2, 4, nil), blank(2), 4, 1},
		{blank(2), record(2, 4, nil), 4, 0},
		{record(2, 4, nil), junk(2), 4, 1},
		{junk(2), record(2, 4, nil), 4, 0},
		{record(2, 4, nil), record(2, 2, nil), 4, 1},
		{record(2, 2, nil), record(2, 4, nil), 4, 0},
		{record(2, 3, nil), record(2, 3, nil), 3, 1},
		{record(2, 1<<32-1, nil), record(2, 1, nil), 1<<32 - 1, 1},
		{record(2, 1, nil), record(2, 1<<63-1, nil), 1<<63 - 1, 0},
	} {
		r := made(t, 2)
		r.lays(0, c.first)
		r.lays(1, c.second)
		r.loads(c.number, nil)
		r.saves([]byte("next"), api.OK)
		r.knows(c.number+1, []byte("next"))
		areas := [][]byte{c.first, c.second}
		areas[c.area] = record(2, c.number+1, []byte("next"))
		r.sureOf(areas[0], areas[1])
		r.anew().loads(c.number+1, []byte("next"))
		r.saves([]byte("next but one"), api.OK)
		areas[1-c.area] = record(2, c.number+2, []byte("next but one"))
		r.sureOf(areas[0], areas[1])
	}
}

// P20.3: the number wraps: behind the greatest one comes 0, which counts then, and behind it 1. Loaded it is the greater number that counts, and one of 0 never.
func TestWraps(t *testing.T) {
	for area := range 2 {
		areas := [][]byte{blank(2), blank(2)}
		areas[area] = record(2, math.MaxUint64, []byte("greatest"))
		r := made(t, 2)
		r.lays(area, areas[area])
		r.loads(math.MaxUint64, []byte("greatest"))
		r.saves([]byte("wrapped"), api.OK)
		areas[1-area] = record(2, 0, []byte("wrapped"))
		r.knows(0, []byte("wrapped"))
		r.sureOf(areas[0], areas[1])
		q := r.anew()
		q.loads(math.MaxUint64, []byte("greatest"))
		r.saves([]byte("behind"), api.OK)
		areas[area] = record(2, 1, []byte("behind"))
		r.knows(1, []byte("behind"))
		r.sureOf(areas[0], areas[1])
		q.loads(1, []byte("behind"))
		r.saves([]byte("again"), api.OK)
		areas[1-area] = record(2, 2, []byte("again"))
		r.sureOf(areas[0], areas[1])
		q.loads(2, []byte("again"))
	}
}

// P20.3: the number next to the greatest one goes up to it, and wraps by the save behind that.
func TestUpToGreatest(t *testing.T) {
	r := made(t, 1)
	r.lays(1, record(1, math.MaxUint64-1, nil))
	r.loads(math.MaxUint64-1, nil)
	r.saves([]byte("a"), api.OK)
	r.knows(math.MaxUint64, []byte("a"))
	r.anew().loads(math.MaxUint64, []byte("a"))
	r.saves([]byte("b"), api.OK)
	r.knows(0, []byte("b"))
	r.sureOf(record(1, math.MaxUint64, []byte("a")), record(1, 0, []byte("b")))
}

// began: slots that saved so many times, the disk's count at 0 behind it; and what is in their areas.
func began(t *testing.T, n, saves int) (r rig, areas [][]byte) {
	t.Helper()
	r = made(t, n)
	areas = [][]byte{blank(n), blank(n)}
	for i := range saves {
		b := text(room(n)-i, byte(i))
		r.saves(b, api.OK)
		areas[i%2] = record(n, uint64(i)+1, b)
	}
	r.Up(nil, api.Plan{})
	return r, areas
}

// counting tells where what saved so many times doesn't count.
func (r rig) counting(saves int) {
	r.Helper()
	if saves == 0 {
		r.knows(0, nil)
	} else {
		r.knows(uint64(saves), text(room(r.n)-saves+1, byte(saves-1)))
	}
}

// P20.3: a save of which a write, or the flush, fails, or at which the power goes: nothing more is done, what counted counts; the next save writes the same area, with the same number.
func TestCutSave(t *testing.T) {
	for n := 1; n <= 8; n++ {
		for saves := range 5 {
			for at := 1; at <= n+1; at++ {
				for code, plan := range map[api.Code]api.Plan{api.Failed: {Fail: []int{at}}, api.Down: {Stop: at}} {
					r, areas := began(t, n, saves)
					r.Plan(plan)
					b := text(room(n), 100)
					r.saves(b, code)
					r.counting(saves)
					r.counts(at, at-1)
					r.sureOf(areas[0], areas[1])
					cut := record(n, uint64(saves)+1, b)
					half := slices.Clone(areas)
					half[saves%2] = slices.Concat(cut[:64*(at-1)], areas[saves%2][64*(at-1):])
					if code == api.Failed {
						r.holds(half[0], half[1])
						r.flushes()
						r.sureOf(half[0], half[1])
					} else {
						r.Up([]byte{1}, api.Plan{})
						r.sureOf(half[0], half[1])
					}
					r.counting(saves)
					again := text(room(n)-20, 101)
					r.saves(again, api.OK)
					r.knows(uint64(saves)+1, again)
					half[saves%2] = record(n, uint64(saves)+1, again)
					r.sureOf(half[0], half[1])
					r.anew().loads(uint64(saves)+1, again)
					if t.Failed() {
						t.Fatalf("P20.3: of %v sectors, behind %v saves, %v at %v", n, saves, code, at)
					}
				}
			}
		}
	}
}

// P20.3: saves that fail one behind the other, at whatever number, write the same area with the same number each time; and what counted counts.
func TestCutAgainAndAgain(t *testing.T) {
	r, areas := began(t, 2, 3)
	r.Plan(api.Plan{Fail: []int{1, 3, 6}, Stop: 9})
	for i, counted := range []int{1, 3, 6} {
		b := text(90+i, byte(50+i))
		r.saves(b, api.Failed)
		r.counting(3)
		r.counts(counted, []int{0, 1, 3}[i])
	}
	r.holds(areas[0], record(2, 4, text(92, 52)))
	r.saves(text(93, 53), api.Down)
	r.counting(3)
	r.counts(9, 5)
	r.saves(text(94, 54), api.Down)
	r.counts(9, 5)
	r.sureOf(areas[0], areas[1])
	r.Up([]byte{1}, api.Plan{})
	r.counting(3)
	r.sureOf(areas[0], record(2, 4, text(93, 53)))
	r.saves(text(95, 55), api.OK)
	r.sureOf(areas[0], record(2, 4, text(95, 55)))
}

// P20.3: while the disk is down: Down, with nothing counted; what is known stays, and is gone on with when the power comes again, without a load.
func TestSaveDown(t *testing.T) {
	for saves := range 4 {
		r, areas := began(t, 2, saves)
		r.Stop()
		for range 2 {
			r.saves([]byte("down"), api.Down)
			r.counting(saves)
			r.counts(0, 0)
		}
		r.Up(nil, api.Plan{})
		r.counting(saves)
		r.sureOf(areas[0], areas[1])
		r.saves([]byte("up"), api.OK)
		r.knows(uint64(saves)+1, []byte("up"))
		areas[saves%2] = record(2, uint64(saves)+1, []byte("up"))
		r.sureOf(areas[0], areas[1])
	}
}

// P20.3: a save's flush makes sure what else is pending on the disk, too.
func TestSaveFlushesAll(t *testing.T) {
	r := made(t, 1)
	r.Write(3, junk(1))
	r.saves(nil, api.OK)
	r.counts(3, 0)
	if string(r.Sure()[3]) != string(junk(1)) {
		t.Errorf("P20.3: the sector behind the areas: %x", r.Sure()[3])
	}
}
