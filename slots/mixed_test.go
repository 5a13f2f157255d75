package slots_test

import (
	"bytes"
	"encoding/binary"
	"math"
	"math/rand/v2"
	"testing"

	"tearoff/api"
	"tearoff/disk"
	"tearoff/rows"
)

// byHand is slots put together by hand, in the chapter's words, on a disk of their own.
type byHand struct {
	d        *disk.Disk
	first, n int
	counts   int // the area that counts; none: -1
	number   uint64
	b        []byte
}

// newByHand: such as know nothing.
func newByHand(d *disk.Disk, first, n int) *byHand {
	return &byHand{d: d, first: first, n: n, counts: -1}
}

// save does what a save does.
func (h *byHand) save(b []byte) api.Code {
	if len(b) > room(h.n) {
		return api.Arg
	}
	area, whole := 0, record(h.n, h.number+1, b)
	if h.counts == 0 {
		area = 1
	}
	for i := range h.n {
		if e := h.d.Write(h.first+area*h.n+i, whole[64*i:64*i+64]); e != api.OK {
			return e
		}
	}
	if e := h.d.Flush(); e != api.OK {
		return e
	}
	h.counts, h.number, h.b = area, h.number+1, b
	return api.OK
}

// parsed: the number and the bytes of an area that is a record.
func parsed(area []byte) (number uint64, b []byte, whole bool) {
	number = binary.BigEndian.Uint64(area)
	size := binary.BigEndian.Uint32(area[8:])
	if number == 0 || size > uint32(len(area)-28) {
		return 0, nil, false
	}
	b = area[12 : 12+size]
	return number, b, bytes.Equal(area, record(len(area)/64, number, b))
}

// load does what a load does.
func (h *byHand) load() ([]byte, uint64, api.Code) {
	var all []byte
	for i := range 2 * h.n {
		b, e := h.d.Read(h.first + i)
		if e != api.OK {
			return nil, 0, e
		}
		all = append(all, b...)
	}
	areas := [][]byte{all[:64*h.n], all[64*h.n:]}
	code := api.Corrupt
	if bytes.Equal(areas[0], blank(h.n)) || bytes.Equal(areas[1], blank(h.n)) {
		code = api.NotFound
	}
	h.counts, h.number, h.b = -1, 0, nil
	for i, area := range areas {
		number, b, whole := parsed(area)
		if whole && (h.counts < 0 || number > h.number) {
			h.counts, h.number, h.b, code = i, number, b, api.OK
		}
	}
	return h.b, h.number, code
}

// alike tells where the slots, or their disk, tell anything else than those put together by hand.
func (r rig) alike(h *byHand) {
	r.Helper()
	r.knows(h.number, h.b)
	rows.SameDisk(r, r.Disk, h.d, "P20.3")
}

// deed is something that is done to slots, and to such as are put together by hand.
type deed struct {
	name string
	do   func(r *rig, h *byHand)
}

// saving, loading, forgetting: deeds.
func saving(name string, b []byte) deed {
	return deed{name, func(r *rig, h *byHand) { r.saves(b, h.save(b)) }}
}

func loading() deed {
	return deed{"load", func(r *rig, h *byHand) {
		b, number, e := h.load()
		if e == api.OK {
			r.loads(number, b)
		} else {
			r.noLoad(e)
		}
	}}
}

func forgetting() deed {
	return deed{"slots anew", func(r *rig, h *byHand) { *r, *h = r.anew(), *newByHand(h.d, h.first, h.n) }}
}

// onDisk: a deed that is done to the disk alone.
func onDisk(name string, do func(d *disk.Disk)) deed {
	return deed{name, func(r *rig, h *byHand) { do(r.Disk); do(h.d) }}
}

// laying: an area of the slots is written by hand, if the disk lets it.
func laying(name string, area int, b []byte) deed {
	return deed{name, func(r *rig, h *byHand) {
		for i := range h.n {
			r.Write(h.first+area*h.n+i, b[64*i:64*i+64])
			h.d.Write(h.first+area*h.n+i, b[64*i:64*i+64])
		}
	}}
}

// deeds are those of which scripts are put together, for areas of one sector.
func deeds() []deed {
	return []deed{
		saving("save a", []byte("a")), saving("save 36", text(36, 1)), saving("save 37", text(37, 1)), loading(), forgetting(),
		onDisk("flush", func(d *disk.Disk) { d.Flush() }), onDisk("stop", func(d *disk.Disk) { d.Stop() }),
		onDisk("up, all lost, 2 fails", func(d *disk.Disk) { d.Up(nil, api.Plan{Fail: []int{2}}) }),
		onDisk("up, all whole, stop at 3", func(d *disk.Disk) { d.Up([]byte{1}, api.Plan{Stop: 3}) }),
		onDisk("up, torn, 1 fails, stop at 4", func(d *disk.Disk) { d.Up([]byte{2 + 4*9, 3 + 4*30}, api.Plan{Fail: []int{1}, Stop: 4}) }),
		laying("the first of 3", 0, record(1, 3, []byte("three"))), laying("the second of the greatest", 1, record(1, math.MaxUint64, nil)),
		laying("the second of 0", 1, record(1, 0, nil)), laying("the first blank", 0, blank(1)), laying("the second junk", 1, junk(1)),
	}
}

// twins: slots, and such as are put together by hand, each on a disk of its own.
func twins(t *testing.T, sectors, first, n int) (rig, *byHand) {
	t.Helper()
	return on(t, rows.Disk(sectors), first, n), newByHand(rows.Disk(sectors), first, n)
}

// run runs a script of deeds, and tells which one it was, where it tells anything else than by hand.
func run(t *testing.T, script []deed) {
	t.Helper()
	r, h := twins(t, 3, 1, 1)
	for k, d := range script {
		d.do(&r, h)
		r.alike(h)
		if t.Failed() {
			for _, d := range script[:k+1] {
				t.Log(d.name)
			}
			t.FailNow()
		}
	}
}

// P20.1 to P20.3: every script of four deeds tells what it tells by hand, and does the same to the disk.
func TestShortScripts(t *testing.T) {
	all, length := deeds(), 4
	if testing.Short() {
		length = 3
	}
	var which []byte
	for i := range all {
		which = append(which, byte(i))
	}
	rows.Every(length, which, func(choices []byte) {
		var script []deed
		for _, c := range choices {
			script = append(script, all[c])
		}
		run(t, script)
	})
}

// mixedArea: what may be laid in an area of n sectors: a record, a broken one, one of a number near to that which counts, junk, or nothing.
func mixedArea(m *rand.Rand, n int, number uint64) []byte {
	b := record(n, number+uint64(m.IntN(4)), mixedRow(m, m.IntN(room(n)+1)))
	switch m.IntN(8) {
	case 0:
		return blank(n)
	case 1:
		return mixedRow(m, 64*n)
	case 2:
		b[m.IntN(64*n)] ^= 1 << m.IntN(8)
	case 3:
		return record(n, -uint64(m.IntN(4)), mixedRow(m, m.IntN(room(n)+1)))
	}
	return b
}

// mixedDeed: one of areas of n sectors, the number that counts being this one.
func mixedDeed(m *rand.Rand, n int, number uint64) deed {
	switch m.IntN(20) {
	case 0, 1:
		choices, p := mixedRow(m, m.IntN(6)), mixedPlan(m)
		return onDisk("up", func(d *disk.Disk) { d.Up(choices, p) })
	case 2:
		p := mixedPlan(m)
		return onDisk("plan", func(d *disk.Disk) { d.Plan(p) })
	case 3:
		return onDisk("flush", func(d *disk.Disk) { d.Flush() })
	case 4:
		if m.IntN(6) == 0 {
			return onDisk("stop", func(d *disk.Disk) { d.Stop() })
		}
		return forgetting()
	case 5, 6, 7:
		return laying("an area", m.IntN(2), mixedArea(m, n, number))
	case 8, 9, 10, 11, 12:
		return loading()
	case 13:
		return saving("save too much", mixedRow(m, room(n)+1+m.IntN(40)))
	}
	return saving("save", mixedRow(m, m.IntN(room(n)+1)))
}

// P20.1 to P20.3: long scripts, of all sizes of areas, wherever they lie, tell what they tell by hand, and do the same to the disk.
func TestLongScripts(t *testing.T) {
	for k := range 32 {
		m, n := mixed(uint64(1000+k)), k%8+1
		first, behind := m.IntN(5), m.IntN(5)
		r, h := twins(t, first+2*n+behind, first, n)
		for range 500 {
			mixedDeed(m, n, h.number).do(&r, h)
			r.alike(h)
			if t.Failed() {
				t.FailNow()
			}
		}
	}
}
