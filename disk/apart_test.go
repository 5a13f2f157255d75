package disk_test

import (
	"bytes"
	"slices"
	"testing"

	"tearoff/api"
	"tearoff/rows"
)

// filled: a disk of three sectors, of which the first one was flushed, and the second one is pending.
func filled(t *testing.T) rig {
	t.Helper()
	r := made(t, 3)
	r.writes(0, marked(0), api.OK)
	r.flushes(api.OK)
	r.writes(1, marked(1), api.OK)
	return r
}

// unchanged tells where a filled disk isn't as it was.
func (r rig) unchanged() {
	r.Helper()
	r.reads(0, marked(0))
	r.reads(1, marked(1))
	r.reads(2, blank())
	r.sure(marked(0), blank(), blank())
	r.counts(3, 1)
}

// P19.1: what Read answered may be written over: asked for again it is as it was, and so is what was answered ahead.
func TestReadKeepsApart(t *testing.T) {
	r := filled(t)
	for i, want := range [][]byte{marked(0), marked(1), blank()} {
		ahead, _ := r.Read(i)
		got, _ := r.Read(i)
		rows.Flip(got[:cap(got)])
		r.unchanged()
		rows.Expect(t, ahead, want, "P19.1: Read, ahead")
		r.Up(whole(1), api.Plan{})
		r.upright(marked(0), marked(1), blank())
		r = filled(t)
	}
}

// P19.1: what Read answered stays, whatever is done to the sector behind it.
func TestReadStays(t *testing.T) {
	r := filled(t)
	first, _ := r.Read(0)
	second, _ := r.Read(1)
	r.writes(0, marked(2), api.OK)
	r.writes(1, marked(3), api.OK)
	r.flushes(api.OK)
	r.writes(0, marked(1), api.OK)
	r.Up(nil, api.Plan{})
	rows.Expect(t, first, marked(0), "P19.1: Read, what was flushed")
	rows.Expect(t, second, marked(1), "P19.1: Read, what was pending")
}

// P19.2: what Sure answered may be written over, its rows and the list of them: asked for again it is as it was, and no row shares memory with another one.
func TestSureKeepsApart(t *testing.T) {
	for i := range 3 {
		r := filled(t)
		ahead, got := r.Sure(), r.Sure()
		rows.Flip(got[i][:cap(got[i])])
		for j := range got {
			if j != i && !bytes.Equal(got[j], ahead[j]) {
				t.Errorf("P19.2: Sure: the row %v shares with %v", j, i)
			}
		}
		clear(got[:cap(got)])
		r.unchanged()
		for j, want := range [][]byte{marked(0), blank(), blank()} {
			rows.Expect(t, ahead[j], want, "P19.2: Sure, ahead", j)
		}
		r.Up(whole(1), api.Plan{})
		r.upright(marked(0), marked(1), blank())
	}
}

// P19.2: what Sure answered stays, whatever is done behind it.
func TestSureStays(t *testing.T) {
	r := filled(t)
	got := r.Sure()
	r.writes(0, marked(2), api.OK)
	r.flushes(api.OK)
	r.writes(2, marked(3), api.OK)
	r.Up(whole(1), api.Plan{})
	for j, want := range [][]byte{marked(0), blank(), blank()} {
		rows.Expect(t, got[j], want, "P19.2: Sure, behind writes", j)
	}
}

// P19.1: what Write was handed stays as it was, its spare room too, whatever the code is; and it may be written over behind the call: pending, flushed, or there by a choice it is what it was.
func TestWriteKeepsNothing(t *testing.T) {
	for _, end := range []func(r rig){
		func(r rig) { r.counts(1, 1) },
		func(r rig) { r.flushes(api.OK); r.sure(marked(0)) },
		func(r rig) { r.Up(whole(1), api.Plan{}); r.upright(marked(0)) },
		func(r rig) { r.flushes(api.OK); r.Up(nil, api.Plan{}); r.upright(marked(0)) },
	} {
		r := made(t, 1)
		b := rows.Guarded(marked(0))
		was := rows.Full(b)
		r.writes(0, b, api.OK)
		if rows.Full(b) != was {
			t.Error("P19.1: Write changes what it is handed")
		}
		rows.Flip(b[:cap(b)])
		r.reads(0, marked(0))
		end(r)
		r.reads(0, marked(0))
	}
}

// P19.1: what a Write that is refused was handed stays as it was.
func TestRefusedWriteChangesNothing(t *testing.T) {
	r := made(t, 1)
	r.Plan(api.Plan{Fail: []int{1}, Stop: 2})
	for _, c := range []struct {
		i    int
		b    []byte
		want api.Code
	}{
		{0, marked(0)[:63], api.Arg}, {0, append(marked(0), 1), api.Arg}, {1, marked(0), api.Arg}, {0, nil, api.Arg},
		{0, marked(0), api.Failed}, {0, marked(0), api.Down}, {0, marked(0), api.Down},
	} {
		b := rows.Guarded(c.b)
		was := rows.Full(b)
		r.writes(c.i, b, c.want)
		if rows.Full(b) != was {
			t.Errorf("P19.1: Write, %v: changes what it is handed", c.want)
		}
	}
}

// numbered: a plan's numbers not in their order, with spare room behind them, in which stands another number.
func numbered() []int { return append(make([]int, 0, 8), 4, 2, 4, -1, 3)[:4] }

// room: numbers with their spare room.
func room(list []int) []int { return slices.Clone(list[:cap(list)]) }

// P19.1, P19.2: the numbers of a plan that Plan, or Up, was handed stay as they were, their spare room too; and they may be written over behind the call: the plan is what it was.
func TestPlanKeepsNothing(t *testing.T) {
	for what, hand := range map[string]func(r rig, p api.Plan){
		"Plan": func(r rig, p api.Plan) { r.Plan(p) },
		"Up":   func(r rig, p api.Plan) { r.Up(nil, p) },
	} {
		fail := numbered()
		was := room(fail)
		r := made(t, 1)
		hand(r, api.Plan{Fail: fail, Stop: 6})
		for i := range 6 {
			if !slices.Equal(room(fail), was) {
				t.Errorf("P19: %v changes a plan's numbers: %v, not %v", what, room(fail), was)
			}
			want := []api.Code{api.OK, api.Failed, api.OK, api.Failed, api.OK, api.Down}[i]
			r.writes(0, marked(0), want)
		}
		fail = numbered()
		r = made(t, 1)
		hand(r, api.Plan{Fail: fail, Stop: 6})
		for i := range room(fail) {
			fail[:cap(fail)][i] = []int{1, 3, 5}[i%3]
		}
		for _, want := range []api.Code{api.OK, api.Failed, api.OK, api.Failed, api.OK, api.Down} {
			r.flushes(want)
		}
	}
}

// P19.2: the choices that Up was handed stay as they were, their spare room, which tells of nothing, too; and they may be written over behind the call.
func TestUpKeepsNothing(t *testing.T) {
	r := made(t, 3)
	for i := range 3 {
		r.writes(i, marked(i), api.OK)
	}
	choices := append(make([]byte, 0, 16), 1, 0, 0, 0, 0)[:2]
	was := rows.Full(choices)
	r.Up(choices, api.Plan{})
	if rows.Full(choices) != was {
		t.Error("P19.2: Up changes the choices")
	}
	r.upright(marked(0), blank(), marked(2))
	r.writes(1, marked(3), api.OK)
	rows.Flip(choices[:cap(choices)])
	r.reads(0, marked(0))
	r.reads(1, marked(3))
	r.sure(marked(0), blank(), marked(2))
	r.Up(nil, api.Plan{})
	r.upright(marked(0), blank(), marked(2))
}

// P19.1: two disks share nothing, neither sectors, nor plans, nor power.
func TestTwoDisks(t *testing.T) {
	one, other := made(t, 2), made(t, 2)
	plan := api.Plan{Fail: []int{2}, Stop: 4}
	one.Plan(plan)
	other.Plan(api.Plan{Fail: []int{1}})
	one.writes(0, marked(0), api.OK)
	other.writes(0, marked(1), api.Failed)
	other.writes(0, marked(1), api.OK)
	one.reads(0, marked(0))
	one.flushes(api.Failed)
	other.flushes(api.OK)
	one.sure(blank(), blank())
	other.sure(marked(1), blank())
	one.counts(2, 1)
	other.counts(3, 0)
	one.Stop()
	other.writes(1, marked(2), api.OK)
	one.downed()
	other.reads(1, marked(2))
	one.Up(whole(1), plan)
	other.counts(4, 1)
	one.upright(marked(0), blank())
}
