package store_test

import (
	"bytes"
	"math/rand/v2"
	"slices"
	"testing"

	"tearoff/api"
	"tearoff/disk"
	"tearoff/reserve"
	"tearoff/rows"
	"tearoff/slots"
)

// mixed: numbers that are mixed the same way each time.
func mixed(start uint64) *rand.Rand { return rand.New(rand.NewPCG(start, 22)) }

// held is a key of a store that is put together by hand.
type held struct {
	made
	c *reserve.Counter
}

// byHand is a store put together by hand, in the chapter's words, of layer 21's counters in layer 20's slots on a disk of their own.
type byHand struct {
	d    *disk.Disk
	open bool
	keys []held
}

// place: slots of an area, that know nothing; false, if the disk has no such area.
func (h *byHand) place(i int) (*slots.Slots, bool) {
	if i > 7 || 8*i+8 > len(h.d.Sure()) {
		return nil, false
	}
	s, e := slots.New(h.d, 8*i, 4)
	return s, e == api.OK
}

// load: what is in slots.
func load(s *slots.Slots) (held, api.Code) {
	c, e := reserve.Open(s)
	if e == api.NotFound || e == api.Down {
		return held{}, e
	}
	if e != api.OK {
		return held{}, api.Corrupt
	}
	name, l, seed, ok := parseByHand(c.Head())
	k := made{name, slices.Clone(l), seed, c.State().Batch}
	if !ok || c.State().Total != k.total() {
		return held{}, api.Corrupt
	}
	return held{k, c}, api.OK
}

// opening does what Open does.
func (h *byHand) opening() api.Code {
	var keys []held
	for i := 0; ; i++ {
		s, there := h.place(i)
		if !there && i == 0 {
			return api.Arg
		}
		if !there {
			h.open, h.keys = true, keys
			return api.OK
		}
		k, e := load(s)
		if e == api.OK && slices.ContainsFunc(keys, func(o held) bool { return o.name == k.name }) {
			return api.Corrupt
		}
		if e == api.OK {
			keys = append(keys, k)
		} else if e != api.NotFound {
			return e
		}
	}
}

// create does what Create does.
func (h *byHand) create(k made) api.Code {
	if !mayBe(k.name, k.l, k.seed) || k.batch == 0 || k.batch > maxBatch {
		return api.Arg
	}
	at := -1
	for i := 0; ; i++ {
		s, there := h.place(i)
		if !there {
			break
		}
		switch x, e := load(s); {
		case e == api.OK && x.name == k.name:
			return api.Exists
		case e == api.NotFound && at < 0:
			at = i
		case e == api.Down || e == api.Corrupt:
			return e
		}
	}
	if at < 0 {
		return api.Full
	}
	s, _ := h.place(at)
	c, e := reserve.New(s, k.head(), k.total(), k.batch)
	if e == api.OK {
		// What it had by this name is gone from the disk.
		h.keys = append(slices.DeleteFunc(h.keys, func(o held) bool { return o.name == k.name }), held{k, c})
	}
	return e
}

// find: the key of a name.
func (h *byHand) find(name string) (held, bool) {
	i := slices.IndexFunc(h.keys, func(k held) bool { return k.name == name })
	if i < 0 {
		return held{}, false
	}
	return h.keys[i], true
}

// sign does what Sign does.
func (h *byHand) sign(name string, text []byte) ([]byte, api.Code) {
	k, there := h.find(name)
	if !there {
		return nil, api.NotFound
	}
	if len(text) > 65536 {
		return nil, api.Arg
	}
	n, e := k.c.Take()
	if e != api.OK {
		return nil, e
	}
	return k.signed(n, text), e
}

// retire does what Retire does.
func (h *byHand) retire(name string) api.Code {
	if k, there := h.find(name); there {
		return k.c.Retire()
	}
	return api.NotFound
}

// alike tells where the store, or its disk, tell anything else than those put together by hand.
func (r rig) alike(h *byHand) {
	r.Helper()
	if h.open {
		var want []string
		for _, k := range h.keys {
			want = append(want, k.name)
			r.is(k.name, k.c.State())
		}
		slices.Sort(want)
		r.has(want...)
	}
	rows.SameDisk(r, r.Disk, h.d, "P22")
}

// deed is something that is done to a store, and to one that is put together by hand.
type deed struct {
	name string
	do   func(r *rig, h *byHand)
}

// opening, creating, signing and retiring: deeds. A store that was open stays so, where a code is told.
func opening() deed {
	return deed{"open", func(r *rig, h *byHand) {
		if want := h.opening(); want == api.OK {
			*r = on(r.T, r.Disk)
		} else {
			noOpen(r.T, r.Disk, want)
		}
	}}
}

func creating(k made) deed {
	return deed{"create " + k.name, func(r *rig, h *byHand) {
		if h.open {
			r.creates(k, h.create(k))
		}
	}}
}

func signing(name string, text []byte) deed {
	return deed{"sign " + name, func(r *rig, h *byHand) {
		if !h.open {
			return
		}
		want, code := h.sign(name, text)
		if sig, e := r.Sign(name, text); e != code || !bytes.Equal(sig, want) {
			r.Errorf("P22.3: Sign(%q, %v bytes): %v bytes, %v, not %v bytes, %v", name, len(text), len(sig), e, len(want), code)
		}
	}}
}

func retiring(name string) deed {
	return deed{"retire " + name, func(r *rig, h *byHand) {
		if h.open {
			r.retires(name, h.retire(name))
		}
	}}
}

// onDisk: a deed that is done to the disk alone.
func onDisk(name string, do func(d *disk.Disk)) deed {
	return deed{name, func(r *rig, h *byHand) { do(r.Disk); do(h.d) }}
}

// laying: an area is written by hand, if the disk lets it.
func laying(name string, area int, b []byte) deed {
	return onDisk(name, func(d *disk.Disk) {
		for i := range whole {
			d.Write(whole*area+i, b[64*i:64*i+64])
		}
	})
}

// deeds are those of which scripts are put together, for a disk of two areas.
func deeds() []deed {
	a, b := key("a", 1, 1, 1), key("b", 2, 1, 2)
	return []deed{
		opening(), creating(a), creating(b), creating(key("c", 0, 1, 1)), signing("a", nil), signing("b", []byte("b")), signing("a", make([]byte, api.MaxText+1)), retiring("a"),
		onDisk("flush", func(d *disk.Disk) { d.Flush() }), onDisk("stop", func(d *disk.Disk) { d.Stop() }),
		onDisk("up, all lost, 5 fails", func(d *disk.Disk) { d.Up(nil, api.Plan{Fail: []int{5}}) }),
		onDisk("up, all whole, stop at 10", func(d *disk.Disk) { d.Up([]byte{1}, api.Plan{Stop: 10}) }),
		onDisk("up, torn, 2 fails, stop at 8", func(d *disk.Disk) { d.Up([]byte{1, 2 + 4*30}, api.Plan{Fail: []int{2}, Stop: 8}) }),
		laying("a, used, in the second", 1, slices.Concat(blank(), record(2, a.bytes(1)))), laying("b, retired, in the first", 0, slices.Concat(record(3, b.retired(4)), blank())),
		laying("junk in the first", 0, rows.Junk(whole)), laying("nothing in the second", 1, free()),
	}
}

// twins: a blank disk of so many sectors with a store, and one for a store that is put together by hand.
func twins(t *testing.T, sectors int) (rig, *byHand) {
	t.Helper()
	r, h := on(t, rows.Disk(sectors)), &byHand{d: rows.Disk(sectors)}
	h.opening()
	return r, h
}

// run runs a script of deeds, and tells which one it was, where it tells anything else than by hand.
func run(t *testing.T, script []deed) {
	t.Helper()
	r, h := twins(t, 2*whole)
	for k, d := range script {
		d.do(&r, h)
		r.alike(h)
		if t.Failed() {
			for _, d := range script[:k+1] {
				t.Log(d.name)
			}
			t.FailNow()
		}
	}
}

// P22.2, P22.3: every script of three deeds, behind nothing, and behind others, tells what it tells by hand, and does the same to the disk.
func TestShortScripts(t *testing.T) {
	all := deeds()
	open, makeA, makeB, signA, signB, failing, stopping := all[0], all[1], all[2], all[4], all[5], all[10], all[11]
	var which []byte
	for i := range all {
		which = append(which, byte(i))
	}
	for i, begin := range [][]deed{nil, {makeB, makeA, signB}, {makeA, signA, failing, open}, {makeB, stopping, makeA}} {
		t.Run(string([]byte{'0' + byte(i)}), func(t *testing.T) {
			if i > 0 {
				slow(t)
			}
			rows.Every(3, which, func(row []byte) {
				script := slices.Clone(begin)
				for _, c := range row {
					script = append(script, all[c])
				}
				run(t, script)
			})
		})
	}
}

// mixedKey: one of few names, that is made soon; few may not be.
func mixedKey(m *rand.Rand) made {
	heights := [][]int{{1}, {2}, {3}, {1, 1}}[m.IntN(4)]
	k := key(string([]byte{'a' + byte(m.IntN(6))}), uint64(m.IntN(6)+1), m.IntN(rows.SumCount), heights...)
	switch m.IntN(20) {
	case 0:
		k.batch = []uint64{0, maxBatch, maxBatch + 1}[m.IntN(3)]
	case 1:
		k.l = slices.Repeat(k.l, 1+m.IntN(8))
	case 2:
		k.seed.Secret = k.seed.Secret[:23]
	case 3:
		k = key("tall, not signed", 3, 1, 10, 10, 10, 10, 10, 10)
	}
	return k
}

// mixedArea: what may be laid in an area: a key's, one whose counter or head is none, junk, or nothing; often with a broken place.
func mixedArea(m *rand.Rand) []byte {
	k := mixedKey(m)
	b, c := k.bytes(0), k.bytes(uint64(m.IntN(3)))
	switch m.IntN(12) {
	case 0, 1, 2:
		return free()
	case 3:
		b, c = b[:m.IntN(len(b))], c[:m.IntN(len(c))]
	case 4:
		c[m.IntN(len(c))] ^= 1 << m.IntN(8)
	case 5:
		c = k.retired(1)
	}
	out := slices.Concat(record(uint64(m.IntN(3)), b), record(uint64(m.IntN(3)), c))
	if m.IntN(4) == 0 {
		out[m.IntN(len(out))] ^= 1 << m.IntN(8)
	}
	return out
}

// mixedDeed: one of a disk of so many areas.
func mixedDeed(m *rand.Rand, areas int) deed {
	name := string([]byte{'a' + byte(m.IntN(6))})
	switch m.IntN(40) {
	case 0, 1:
		choices, p := rows.MixedRow(m, m.IntN(6)), rows.MixedPlan(m)
		return onDisk("up", func(d *disk.Disk) { d.Up(choices, p) })
	case 2:
		p := rows.MixedPlan(m)
		return onDisk("plan", func(d *disk.Disk) { d.Plan(p) })
	case 3:
		if m.IntN(6) == 0 {
			return onDisk("stop", func(d *disk.Disk) { d.Stop() })
		}
		return onDisk("flush", func(d *disk.Disk) { d.Flush() })
	case 4:
		if m.IntN(3) == 0 {
			return laying("an area", m.IntN(areas), mixedArea(m))
		}
		return laying("nothing in an area", m.IntN(areas), free())
	case 5, 6, 7:
		return opening()
	case 8, 9, 10, 11, 12, 13:
		return creating(mixedKey(m))
	case 14:
		return retiring(name)
	case 15:
		return signing(name, make([]byte, api.MaxText+m.IntN(2)))
	}
	return signing(name, nil)
}

// P22.2, P22.3: long scripts, on disks of one area and of more, tell what they tell by hand, and do the same to the disk.
func TestLongScripts(t *testing.T) {
	t.Parallel()
	for k := range 36 {
		m, areas := mixed(uint64(2000+k)), k%9+1
		r, h := twins(t, whole*areas+k%whole)
		for range 300 {
			mixedDeed(m, areas).do(&r, h)
			r.alike(h)
			if t.Failed() {
				t.FailNow()
			}
		}
	}
}
