package disk_test

import (
	"bytes"
	"slices"
	"testing"

	"tearoff/api"
)

// torn: what is there of a sector by a choice, whose pending write would make it the other one. Byte by byte, as the chapter says.
func torn(c byte, was, written []byte) []byte {
	out := slices.Clone(was)
	for j := range out {
		first := j < int(c)/4
		switch int(c) % 4 {
		case 1:
			out[j] = written[j]
		case 2:
			if first {
				out[j] = written[j]
			}
		case 3:
			if !first {
				out[j] = written[j]
			}
		}
	}
	return out
}

// both: a test of the power's coming, of a disk that is down, and of one that is up.
func both(t *testing.T, sectors int, do func(r rig, down func())) {
	t.Helper()
	for _, stop := range []bool{true, false} {
		r := made(t, sectors)
		do(r, func() {
			if stop {
				r.Stop()
			}
		})
	}
}

// P19.2: each kind of choice, with none, one and 63 bytes, worked out.
func TestChoices(t *testing.T) {
	was, written := marked(0), marked(1)
	for _, c := range []struct {
		choice byte
		want   []byte
	}{
		{0, was}, {4 * 1, was}, {4 * 31, was}, {4 * 63, was},
		{1, written}, {1 + 4*1, written}, {1 + 4*31, written}, {1 + 4*63, written},
		{2, was}, {2 + 4*1, append([]byte{written[0]}, was[1:]...)}, {2 + 4*31, joined(31, written, was)}, {2 + 4*63, append(marked(1)[:63], was[63])},
		{3, written}, {3 + 4*1, append([]byte{was[0]}, written[1:]...)}, {3 + 4*31, joined(31, was, written)}, {3 + 4*63, append(marked(0)[:63], written[63])},
	} {
		both(t, 1, func(r rig, down func()) {
			r.writes(0, was, api.OK)
			r.flushes(api.OK)
			r.writes(0, written, api.OK)
			down()
			r.Up([]byte{c.choice}, api.Plan{})
			r.upright(c.want)
			if got := torn(c.choice, was, written); !bytes.Equal(got, c.want) {
				t.Errorf("torn(%v): %v", c.choice, got)
			}
		})
	}
}

// P19.2: all choices, of a sector in the midst: no other one is touched.
func TestAllChoices(t *testing.T) {
	for c := range 256 {
		both(t, 3, func(r rig, down func()) {
			for i := range 3 {
				r.writes(i, marked(i), api.OK)
			}
			r.flushes(api.OK)
			r.writes(1, marked(3), api.OK)
			down()
			r.Up([]byte{byte(c)}, api.Plan{})
			r.upright(marked(0), torn(byte(c), marked(1), marked(3)), marked(2))
		})
	}
}

// P19.2: the choices go to the pending writes from the first one on, in the order in which they were written, not in that of the sectors; they are counted round, where there are fewer; those that are more tell of nothing; of none all is lost.
func TestChoicesInTurn(t *testing.T) {
	order := []int{4, 0, 3, 1, 2}
	for _, choices := range [][]byte{
		nil, {}, whole(8)[:0], {0}, {1}, {2 + 4*20}, {0, 1}, {1, 0}, {3 + 4*5, 2 + 4*7, 1}, {1, 0, 2 + 4*63}, {0, 1, 1, 0}, {1, 0, 1, 2 + 4*8},
		{1, 2 + 4*9, 0, 3 + 4*11, 1}, {0, 1, 0, 1, 0, 1}, {1, 0, 0, 0, 0, 1, 1, 1, 1}, bytes.Repeat([]byte{0, 1, 2 + 4*33, 3 + 4*44}, 100),
	} {
		both(t, 5, func(r rig, down func()) {
			want := make([][]byte, 5)
			for k, i := range order {
				r.writes(i, marked(i%4), api.OK)
				c := byte(0)
				if len(choices) > 0 {
					c = choices[k%len(choices)]
				}
				want[i] = torn(c, blank(), marked(i%4))
			}
			down()
			r.Up(choices, api.Plan{})
			r.upright(want...)
		})
	}
}

// P19.2: the choices begin anew each time that the power comes: none is left over from the time ahead.
func TestChoicesAnew(t *testing.T) {
	both(t, 2, func(r rig, down func()) {
		r.writes(0, marked(0), api.OK)
		down()
		r.Up([]byte{1, 0}, api.Plan{})
		r.upright(marked(0), blank())
		r.writes(0, marked(1), api.OK)
		r.writes(1, marked(2), api.OK)
		down()
		r.Up([]byte{1, 0}, api.Plan{})
		r.upright(marked(1), blank())
	})
}

// P19.2: of writes to one sector each goes by its own choice, on what those ahead of it left.
func TestOneSectorTwice(t *testing.T) {
	for _, c := range []struct {
		choices []byte
		want    []byte
	}{
		{[]byte{0, 0}, marked(0)},
		{[]byte{1, 0}, marked(1)},
		{[]byte{0, 1}, marked(2)},
		{[]byte{1, 1}, marked(2)},
		{[]byte{1, 2 + 4*10}, joined(10, marked(2), marked(1))},
		{[]byte{2 + 4*10, 0}, joined(10, marked(1), marked(0))},
		{[]byte{2 + 4*10, 3 + 4*10}, joined(10, marked(1), marked(2))},
		{[]byte{3 + 4*10, 2 + 4*10}, joined(10, marked(2), marked(1))},
		{[]byte{2 + 4*10, 3 + 4*20}, joined(10, marked(1), joined(20, marked(0), marked(2)))},
		{[]byte{2 + 4*20, 2 + 4*10}, joined(10, marked(2), joined(20, marked(1), marked(0)))},
		{[]byte{2 + 4*10, 2 + 4*20}, joined(20, marked(2), marked(0))},
		{[]byte{3 + 4*20, 3 + 4*10}, joined(10, marked(0), marked(2))},
		{[]byte{3 + 4*10, 3 + 4*20}, joined(10, marked(0), joined(20, marked(1), marked(2)))},
	} {
		both(t, 1, func(r rig, down func()) {
			r.writes(0, marked(0), api.OK)
			r.flushes(api.OK)
			r.writes(0, marked(1), api.OK)
			r.writes(0, marked(2), api.OK)
			r.reads(0, marked(2))
			down()
			r.Up(c.choices, api.Plan{})
			r.upright(c.want)
		})
	}
}

// P19.2: two writes to one sector, another one's between, by all kinds of choices.
func TestWritesBetween(t *testing.T) {
	kinds := []byte{0, 1, 2 + 4*12, 3 + 4*34, 2 + 4*63, 3, 2}
	for _, c := range kinds {
		for _, d := range kinds {
			for _, e := range kinds {
				both(t, 2, func(r rig, down func()) {
					r.writes(1, marked(0), api.OK)
					r.writes(0, marked(1), api.OK)
					r.writes(1, marked(2), api.OK)
					down()
					r.Up([]byte{c, d, e}, api.Plan{})
					r.upright(torn(d, blank(), marked(1)), torn(e, torn(c, blank(), marked(0)), marked(2)))
				})
			}
		}
	}
}

// P19.2: with nothing pending no choice changes anything.
func TestNothingPending(t *testing.T) {
	for c := range 256 {
		both(t, 2, func(r rig, down func()) {
			down()
			r.Up([]byte{byte(c)}, api.Plan{})
			r.upright(blank(), blank())
			r.writes(1, marked(0), api.OK)
			r.flushes(api.OK)
			down()
			for range 2 {
				r.Up([]byte{byte(c)}, api.Plan{})
				r.upright(blank(), marked(0))
			}
		})
	}
}

// P19.2: a write that failed, that was Arg, or ahead of which the power went, isn't pending: no choice goes to it.
func TestNotPending(t *testing.T) {
	r := made(t, 3)
	r.Plan(api.Plan{Fail: []int{2}, Stop: 4})
	r.writes(0, marked(0), api.OK)
	r.writes(1, marked(1), api.Failed)
	r.writes(0, marked(1)[1:], api.Arg)
	r.writes(2, marked(2), api.OK)
	r.writes(1, marked(3), api.Down)
	r.writes(1, marked(3), api.Down)
	r.Up([]byte{0, 1, 1, 1}, api.Plan{})
	r.upright(blank(), blank(), marked(2))
}

// P19.2: behind the power's coming nothing is pending, the count is 0, and the plan is the new one, counted from 1 on; what is there then is sure.
func TestUpAnew(t *testing.T) {
	both(t, 2, func(r rig, down func()) {
		r.Plan(api.Plan{Fail: []int{3, 4, 5}, Stop: 6})
		r.writes(0, marked(0), api.OK)
		r.writes(1, marked(1), api.OK)
		down()
		r.Up([]byte{1, 2 + 4*7}, api.Plan{Fail: []int{4, 2}, Stop: 5})
		half := joined(7, marked(1), blank())
		r.upright(marked(0), half)
		r.writes(0, marked(2), api.OK)
		r.flushes(api.Failed)
		r.counts(2, 1)
		r.writes(1, marked(3), api.OK)
		r.flushes(api.Failed)
		r.counts(4, 2)
		r.flushes(api.Down)
		r.counts(5, 2)
		r.sure(marked(0), half)
		r.Up([]byte{0}, api.Plan{})
		r.upright(marked(0), half)
	})
}

// P19.2: a disk that is up may have the power go and come at once: what is pending hangs on the choices, as ever.
func TestUpWhileUp(t *testing.T) {
	r := made(t, 2)
	r.writes(0, marked(0), api.OK)
	r.flushes(api.OK)
	r.writes(0, marked(1), api.OK)
	r.writes(1, marked(2), api.OK)
	r.Up([]byte{0, 3 + 4*50}, api.Plan{Stop: 1})
	r.upright(marked(0), joined(50, blank(), marked(2)))
	r.flushes(api.Down)
	r.downed()
	r.counts(1, 0)
}
