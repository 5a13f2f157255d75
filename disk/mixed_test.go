package disk_test

import (
	"bytes"
	"math/rand/v2"
	"slices"
	"testing"

	"tearoff/api"
	"tearoff/rows"
)

// pend is a write that is pending.
type pend struct {
	at int
	b  []byte
}

// byHand is a disk put together by hand, in the chapter's words: what is sure, what is pending, and all else asked of these.
type byHand struct {
	sure    [][]byte
	pending []pend
	plan    api.Plan
	count   int
	down    bool
}

// newByHand: one of so many sectors.
func newByHand(sectors int) *byHand {
	return &byHand{sure: slices.Repeat([][]byte{blank()}, sectors)}
}

// read: what was written to a sector last, or what is sure of it.
func (h *byHand) read(i int) ([]byte, api.Code) {
	if h.down {
		return nil, api.Down
	}
	if i < 0 || i >= len(h.sure) {
		return nil, api.Arg
	}
	for _, p := range slices.Backward(h.pending) {
		if p.at == i {
			return p.b, api.OK
		}
	}
	return h.sure[i], api.OK
}

// counted counts a write or a flush, and tells by the plan what comes of it.
func (h *byHand) counted() api.Code {
	h.count++
	if h.count == h.plan.Stop {
		h.down = true
		return api.Down
	}
	if slices.Contains(h.plan.Fail, h.count) {
		return api.Failed
	}
	return api.OK
}

// write and flush do what a disk does.
func (h *byHand) write(i int, b []byte) api.Code {
	if h.down {
		return api.Down
	}
	if i < 0 || i >= len(h.sure) || len(b) != api.SectorLen {
		return api.Arg
	}
	e := h.counted()
	if e == api.OK {
		h.pending = append(h.pending, pend{i, b})
	}
	return e
}

func (h *byHand) flush() api.Code {
	if h.down {
		return api.Down
	}
	e := h.counted()
	if e == api.OK {
		h.up([]byte{1})
	}
	return e
}

// up lets each pending write be there, by its choice.
func (h *byHand) up(choices []byte) {
	for k, p := range h.pending {
		c := byte(0)
		if len(choices) > 0 {
			c = choices[k%len(choices)]
		}
		h.sure[p.at] = torn(c, h.sure[p.at], p.b)
	}
	h.pending = nil
}

// alike tells where a disk tells anything else than that put together by hand.
func (r rig) alike(h *byHand) {
	r.Helper()
	for i := -1; i <= len(h.sure); i++ {
		want, code := h.read(i)
		if b, e := r.Read(i); e != code || !bytes.Equal(b, want) {
			r.Errorf("P19.1: Read(%v): %v, %v, not %v, %v", i, b, e, want, code)
		}
	}
	r.sure(h.sure...)
	r.counts(h.count, len(h.pending))
}

// deed is something that is done to a disk, and to one put together by hand.
type deed struct {
	name string
	do   func(r rig, h *byHand)
}

// writing, flushing, coming, planning: deeds.
func writing(name string, i int, b []byte) deed {
	return deed{name, func(r rig, h *byHand) { r.writes(i, b, h.write(i, b)) }}
}

func flushing() deed {
	return deed{"flush", func(r rig, h *byHand) { r.flushes(h.flush()) }}
}

func stopping() deed {
	return deed{"stop", func(r rig, h *byHand) { r.Stop(); h.down = true }}
}

func coming(name string, choices []byte, p api.Plan) deed {
	return deed{name, func(r rig, h *byHand) {
		r.Up(choices, p)
		h.up(choices)
		h.count, h.down, h.plan = 0, false, p
	}}
}

func planning(name string, p api.Plan) deed {
	return deed{name, func(r rig, h *byHand) { r.Plan(p); h.plan = p }}
}

// deeds are those of which scripts are put together.
func deeds() []deed {
	return []deed{
		writing("0 of 0", 0, marked(0)), writing("0 of 1", 0, marked(1)), writing("1 of 2", 1, marked(2)), writing("1 short", 1, marked(3)[1:]),
		flushing(), stopping(),
		coming("up, all lost, stop at 2", nil, api.Plan{Stop: 2}), coming("up, all whole, 3 and 1 fail", whole(1), api.Plan{Fail: []int{3, 1}}),
		coming("up, torn, 2 fails, stop at 3", []byte{2 + 4*22, 3 + 4*44, 0}, api.Plan{Fail: []int{2, 3}, Stop: 3}),
		planning("2 and 3 fail", api.Plan{Fail: []int{2, 3}}), planning("stop at 3", api.Plan{Stop: 3}),
	}
}

// run runs a script on a new disk of two sectors, and tells which one it was, where it tells anything else than by hand.
func run(t *testing.T, script []deed) {
	t.Helper()
	r, h := made(t, 2), newByHand(2)
	for k, d := range script {
		d.do(r, h)
		r.alike(h)
		if t.Failed() {
			for _, d := range script[:k+1] {
				t.Log(d.name)
			}
			t.FailNow()
		}
	}
}

// P19.1, P19.2: every script of five deeds tells what it tells by hand.
func TestShortScripts(t *testing.T) {
	all, length := deeds(), 5
	if testing.Short() {
		length = 3
	}
	at, script := make([]int, length), make([]deed, length)
	for {
		for k, i := range at {
			script[k] = all[i]
		}
		run(t, script)
		k := length - 1
		for ; k >= 0 && at[k] == len(all)-1; k-- {
			at[k] = 0
		}
		if k < 0 {
			return
		}
		at[k]++
	}
}

// mixed: numbers that are mixed the same way each time.
func mixed(start uint64) *rand.Rand { return rand.New(rand.NewPCG(start, 19)) }

// mixedPlan: a plan, that often tells of nothing.
func mixedPlan(m *rand.Rand) api.Plan {
	var p api.Plan
	for range m.IntN(6) {
		p.Fail = append(p.Fail, m.IntN(40)-4)
	}
	if m.IntN(2) == 0 {
		p.Stop = m.IntN(40) - 4
	}
	return p
}

// mixedRow: so many bytes.
func mixedRow(m *rand.Rand, n int) []byte { return rows.MixedRow(m, n) }

// mixedDeed: one of a disk of so many sectors.
func mixedDeed(m *rand.Rand, sectors int) deed {
	switch m.IntN(20) {
	case 0:
		return coming("up", mixedRow(m, m.IntN(9)), mixedPlan(m))
	case 1:
		return planning("plan", mixedPlan(m))
	case 2, 3, 4:
		return flushing()
	case 5:
		return writing("write what may not be", m.IntN(sectors+2)-1, mixedRow(m, 62+m.IntN(4)))
	case 6:
		if m.IntN(6) == 0 {
			return stopping()
		}
	}
	return writing("write", m.IntN(sectors), mixedRow(m, api.SectorLen))
}

// P19.1, P19.2: long scripts, of disks of many sectors too, tell what they tell by hand.
func TestLongScripts(t *testing.T) {
	for k, sectors := range []int{1, 2, 3, 5, 8, 13, 256, 1, 2, 3, 5, 8, 13, 256} {
		m := mixed(uint64(k))
		r, h := made(t, sectors), newByHand(sectors)
		for range 2000 {
			mixedDeed(m, sectors).do(r, h)
			r.alike(h)
			if t.Failed() {
				t.FailNow()
			}
		}
	}
}

// P19.3: what was flushed, and not written since, stays, whatever the choices, stops and failures are; a write that failed, was Arg, or told of a stop, is none.
func TestFlushedStays(t *testing.T) {
	const sectors = 6
	m := mixed(3)
	for range 300 {
		r := made(t, sectors)
		flushed := map[int][]byte{}
		var last [sectors][]byte
		for range 60 {
			switch i := m.IntN(sectors); m.IntN(8) {
			case 0, 1, 2, 3:
				b := mixedRow(m, api.SectorLen)
				if r.Write(i, b) == api.OK {
					last[i] = b
					delete(flushed, i)
				}
			case 4:
				if r.Write(i, mixedRow(m, 63)) == api.OK || r.Write(i+sectors, mixedRow(m, api.SectorLen)) == api.OK {
					t.Error("P19.1: Write of what may not be")
				}
			case 5:
				if r.Flush() == api.OK {
					for i, b := range last {
						if b != nil {
							flushed[i] = b
						}
					}
				}
			case 6:
				r.Up(mixedRow(m, m.IntN(5)), mixedPlan(m))
				last = [sectors][]byte{}
			case 7:
				if m.IntN(3) == 0 {
					r.Stop()
				} else {
					r.Plan(mixedPlan(m))
				}
			}
			r.holds(flushed)
		}
		r.Up(mixedRow(m, 4), api.Plan{})
		for i, b := range flushed {
			r.reads(i, b)
		}
		r.holds(flushed)
	}
}

// holds tells where what was flushed isn't sure any more.
func (r rig) holds(flushed map[int][]byte) {
	r.Helper()
	sure := r.Sure()
	for i, b := range flushed {
		if !bytes.Equal(sure[i], b) {
			r.Errorf("P19.3: the sector %v: %v, not %v", i, sure[i], b)
		}
	}
}

// P19.3: the same by every choice, with a stop at each number, and each number failing: two sectors are flushed, two others written behind it.
func TestFlushedStaysByAll(t *testing.T) {
	for c := range 256 {
		for n := range 6 {
			for _, p := range []api.Plan{{Stop: n}, {Fail: []int{n}}, {Fail: []int{n, n + 1}, Stop: n + 2}} {
				r := made(t, 4)
				r.writes(0, marked(0), api.OK)
				r.writes(3, marked(3), api.OK)
				r.flushes(api.OK)
				r.Up([]byte{byte(c)}, p)
				for range 2 {
					r.Write(1, marked(1))
					r.Write(0, marked(2)[:c%64])
					r.Write(2, marked(2))
					r.Flush()
					r.Write(2, marked(1))
				}
				r.Up([]byte{byte(c), byte(n)}, api.Plan{})
				r.reads(0, marked(0))
				r.reads(3, marked(3))
				if sure := r.Sure(); !bytes.Equal(sure[0], marked(0)) || !bytes.Equal(sure[3], marked(3)) {
					t.Errorf("P19.3: by the choice %v and the plan %+v: %v, %v", c, p, sure[0], sure[3])
				}
			}
		}
	}
}
