package reserve_test

import (
	"bytes"
	"math/rand/v2"
	"slices"
	"testing"

	"tearoff/api"
	"tearoff/disk"
	"tearoff/reserve"
	"tearoff/rows"
	"tearoff/slots"
)

// byHand is a counter put together by hand, in the chapter's words, in slots of layer 20 on a disk of their own.
type byHand struct {
	d        *disk.Disk
	first, n int
	s        *slots.Slots
	open     bool
	x        api.Counted
	head     []byte
}

// newByHand: slots that know nothing, and no counter that is open.
func newByHand(t *testing.T, d *disk.Disk, first, n int) *byHand {
	t.Helper()
	s, e := slots.New(d, first, n)
	if e != api.OK {
		t.Fatal(e)
	}
	return &byHand{d: d, first: first, n: n, s: s}
}

// create does what New does.
func (h *byHand) create(head []byte, total, batch uint64) api.Code {
	x := api.Counted{Total: total, Batch: batch}
	if !mayBe(x, head) {
		return api.Arg
	}
	if _, _, e := h.s.Load(); e == api.OK {
		return api.Exists
	} else if e != api.NotFound {
		return e
	}
	if e := h.s.Save(bytesOf(x, head)); e != api.OK {
		return e
	}
	h.open, h.x, h.head = true, x, slices.Clone(head)
	return api.OK
}

// opening does what Open does.
func (h *byHand) opening() api.Code {
	b, _, e := h.s.Load()
	if e != api.OK {
		return e
	}
	if len(b) < bareLen {
		return api.Short
	}
	x, head, ok := readByHand(b)
	if !ok {
		return api.Malformed
	}
	h.open, h.x, h.head = true, x, head
	return api.OK
}

// take does what Take does.
func (h *byHand) take() (uint64, api.Code) {
	if h.x.Retired {
		return 0, api.Retired
	}
	if h.x.Next >= h.x.Total {
		return 0, api.Exhausted
	}
	if h.x.Next >= h.x.Reserved {
		more := h.x
		more.Reserved = h.x.Total
		if left := h.x.Total - h.x.Reserved; h.x.Batch < left {
			more.Reserved = h.x.Reserved + h.x.Batch
		}
		if e := h.s.Save(bytesOf(more, h.head)); e != api.OK {
			return 0, e
		}
		h.x = more
	}
	h.x.Next++
	return h.x.Next - 1, api.OK
}

// retire does what Retire does.
func (h *byHand) retire() api.Code {
	if h.x.Retired {
		return api.OK
	}
	is := h.x
	is.Retired = true
	e := h.s.Save(bytesOf(is, h.head))
	if e == api.OK {
		h.x = is
	}
	return e
}

// alike tells where the counter, its slots, or their disk, tell anything else than those put together by hand.
func (r rig) alike(h *byHand) {
	r.Helper()
	if h.open {
		r.is(h.x, h.head)
	}
	b, n := r.Now()
	if c, m := h.s.Now(); n != m || !bytes.Equal(b, c) {
		r.Errorf("P21: the slots know %v, %x, not %v, %x", n, b, m, c)
	}
	rows.SameDisk(r, r.Disk, h.d, "P21")
}

// deed is something that is done to a counter, and to one that is put together by hand.
type deed struct {
	name string
	do   func(r *rig, h *byHand)
}

// creating, opening, taking, retiring and forgetting: deeds. A counter that was open stays so, where a code is told.
func creating(name string, head []byte, total, batch uint64) deed {
	return deed{name, func(r *rig, h *byHand) {
		if want := h.create(head, total, batch); want == api.OK {
			r.makes(head, total, batch)
		} else {
			r.noMake(head, total, batch, want)
		}
	}}
}

func opening() deed {
	return deed{"open", func(r *rig, h *byHand) {
		want := h.opening()
		if want != api.OK {
			r.noOpen(want)
			return
		}
		c, e := reserve.Open(r.Slots)
		if e != api.OK || c == nil {
			r.Fatalf("P21.2: Open: %v", e)
		}
		r.Counter = c
	}}
}

func taking() deed {
	return deed{"take", func(r *rig, h *byHand) {
		if !h.open {
			return
		}
		if n, want := h.take(); want == api.OK {
			r.takes(n)
		} else {
			r.noTake(want)
		}
	}}
}

func retiring() deed {
	return deed{"retire", func(r *rig, h *byHand) {
		if h.open {
			r.retires(h.retire())
		}
	}}
}

func forgetting() deed {
	return deed{"slots anew", func(r *rig, h *byHand) { *r, *h = r.anew(), *newByHand(r.T, h.d, h.first, h.n) }}
}

// onDisk: a deed that is done to the disk alone.
func onDisk(name string, do func(d *disk.Disk)) deed {
	return deed{name, func(r *rig, h *byHand) { do(r.Disk); do(h.d) }}
}

// laying: an area of the slots is written by hand, if the disk lets it.
func laying(name string, area int, b []byte) deed {
	return deed{name, func(r *rig, h *byHand) {
		for i := range h.n {
			r.Write(h.first+area*h.n+i, b[64*i:64*i+64])
			h.d.Write(h.first+area*h.n+i, b[64*i:64*i+64])
		}
	}}
}

// deeds are those of which scripts are put together, for areas of one sector.
func deeds() []deed {
	return []deed{
		creating("new of 5 by 2", []byte("head"), 5, 2), creating("new of 5 by 0", nil, 5, 0), creating("new with too long a head", rows.Mixed(12, 1), 5, 2),
		opening(), taking(), retiring(), forgetting(),
		onDisk("flush", func(d *disk.Disk) { d.Flush() }), onDisk("stop", func(d *disk.Disk) { d.Stop() }),
		onDisk("up, all lost, 2 fails", func(d *disk.Disk) { d.Up(nil, api.Plan{Fail: []int{2}}) }),
		onDisk("up, all whole, stop at 3", func(d *disk.Disk) { d.Up([]byte{1}, api.Plan{Stop: 3}) }),
		onDisk("up, torn, 1 fails, stop at 4", func(d *disk.Disk) { d.Up([]byte{2 + 4*30}, api.Plan{Fail: []int{1}, Stop: 4}) }),
		laying("the first, 3 of 3 by 1", 0, record(1, 3, bytesOf(api.Counted{Total: 3, Batch: 1, Reserved: 3}, nil))),
		laying("the second, retired", 1, record(1, 4, bytesOf(api.Counted{Total: 9, Batch: 4, Reserved: 4, Retired: true}, nil))),
		laying("the second, no counter", 1, record(1, 9, []byte("no counter"))), laying("the first junk", 0, junk(1)), laying("the second blank", 1, blank(1)),
	}
}

// twins: slots, and such for a counter that is put together by hand, each on a disk of its own.
func twins(t *testing.T, sectors, first, n int) (rig, *byHand) {
	t.Helper()
	return on(t, rows.Disk(sectors), first, n), newByHand(t, rows.Disk(sectors), first, n)
}

// run runs a script of deeds, and tells which one it was, where it tells anything else than by hand.
func run(t *testing.T, script []deed) {
	t.Helper()
	r, h := twins(t, 3, 1, 1)
	for k, d := range script {
		d.do(&r, h)
		r.alike(h)
		if t.Failed() {
			for _, d := range script[:k+1] {
				t.Log(d.name)
			}
			t.FailNow()
		}
	}
}

// P21.2, P21.3: every script of four deeds, and every one behind a counter of which a number was taken, tells what it tells by hand, and does the same to the disk.
func TestShortScripts(t *testing.T) {
	all, length := deeds(), 4
	if testing.Short() {
		length = 3
	}
	var which []byte
	for i := range all {
		which = append(which, byte(i))
	}
	for _, begin := range [][]deed{nil, {all[0], taking()}} {
		rows.Every(length, which, func(row []byte) {
			script := slices.Clone(begin)
			for _, c := range row {
				script = append(script, all[c])
			}
			run(t, script)
		})
	}
}

// mixedCounter: a counter that may be put on the disk, and its head; few may not be.
func mixedCounter(m *rand.Rand, room int) (api.Counted, []byte) {
	total := uint64(m.IntN(60) + 1)
	x := api.Counted{Total: total, Batch: uint64(m.IntN(9) + 1), Reserved: uint64(m.IntN(int(total) + 1)), Retired: m.IntN(9) == 0}
	switch m.IntN(30) {
	case 0:
		x.Reserved = total + 1
	case 1:
		x.Batch = []uint64{0, maxBatch + 1}[m.IntN(2)]
	case 2:
		x.Total = []uint64{0, maxTotal + 1}[m.IntN(2)]
	}
	return x, mixedRow(m, m.IntN(min(room, maxHead)+1))
}

// mixedArea: what may be laid in an area of n sectors: a counter's record, another one, a broken one, junk, or nothing.
func mixedArea(m *rand.Rand, n int, number uint64) []byte {
	number += uint64(m.IntN(3))
	switch m.IntN(8) {
	case 0, 1:
		return blank(n)
	case 2:
		return mixedRow(m, 64*n)
	case 3:
		return record(n, number, mixedRow(m, m.IntN(40)%(64*n-27)))
	}
	x, head := mixedCounter(m, 64*n-28-bareLen)
	b := record(n, number, bytesOf(x, head))
	if m.IntN(8) == 0 {
		b[m.IntN(64*n)] ^= 1 << m.IntN(8)
	}
	return b
}

// mixedDeed: one of areas of n sectors, the number of the record that counts being this one.
func mixedDeed(m *rand.Rand, n int, number uint64) deed {
	switch m.IntN(30) {
	case 0, 1:
		choices, p := mixedRow(m, m.IntN(6)), mixedPlan(m)
		return onDisk("up", func(d *disk.Disk) { d.Up(choices, p) })
	case 2:
		p := mixedPlan(m)
		return onDisk("plan", func(d *disk.Disk) { d.Plan(p) })
	case 3:
		if m.IntN(6) == 0 {
			return onDisk("stop", func(d *disk.Disk) { d.Stop() })
		}
		return onDisk("flush", func(d *disk.Disk) { d.Flush() })
	case 4:
		return forgetting()
	case 5:
		return laying("an area", m.IntN(2), mixedArea(m, n, number))
	case 6, 7:
		return opening()
	case 8, 9, 10:
		x, head := mixedCounter(m, 64*n-27-bareLen)
		return creating("new", head, x.Total, x.Batch)
	case 11:
		if m.IntN(3) == 0 {
			return retiring()
		}
	}
	return taking()
}

// P21.2, P21.3: long scripts, of all sizes of areas, wherever they lie, tell what they tell by hand, and do the same to the disk.
func TestLongScripts(t *testing.T) {
	for k := range 64 {
		m, n := mixed(uint64(2000+k)), k%8+1
		first, behind := m.IntN(5), m.IntN(5)
		r, h := twins(t, first+2*n+behind, first, n)
		for range 500 {
			_, number := h.s.Now()
			mixedDeed(m, n, number).do(&r, h)
			r.alike(h)
			if t.Failed() {
				t.FailNow()
			}
		}
	}
}
