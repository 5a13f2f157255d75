package slots_test

import (
	"testing"

	"tearoff/api"
	"tearoff/rows"
)

// sizesApart are how many bytes records have of which it is asked whether they are kept apart.
var sizesApart = []int{1, 20, 52, 100}

// now and load: what Now, and Load, answer of bytes.
func now(r rig) []byte {
	b, _ := r.Now()
	return b
}

func load(r rig) []byte {
	b, _, _ := r.Load()
	return b
}

// P20.1, P20.2: what Now and Load answered may be written over, its spare room too: asked for again it is as it was, by either of them, on the disk as well; and what was answered ahead stays.
func TestAnswersKeptApart(t *testing.T) {
	for _, size := range sizesApart {
		for _, behind := range []func(r rig) rig{
			func(r rig) rig { return r },
			func(r rig) rig { r.loads(1, text(size, 1)); return r },
			func(r rig) rig { q := r.anew(); q.loads(1, text(size, 1)); return q },
		} {
			for _, ask := range []func(r rig) []byte{now, load} {
				for _, then := range []func(r rig) []byte{now, load} {
					r := made(t, 2)
					r.saves(text(size, 1), api.OK)
					r = behind(r)
					ahead := then(r)
					got := ask(r)
					rows.Flip(got[:cap(got)])
					rows.Expect(t, then(r), text(size, 1), "P20: asked for again")
					rows.Expect(t, ahead, text(size, 1), "P20: asked for ahead")
					r.knows(1, text(size, 1))
					r.sureOf(record(2, 1, text(size, 1)), blank(2))
					r.saves(nil, api.OK)
					r.sureOf(record(2, 1, text(size, 1)), record(2, 2, nil))
				}
			}
		}
	}
}

// P20.1, P20.2: what Now and Load answered stays, whatever is saved, loaded or written behind it.
func TestAnswersStay(t *testing.T) {
	for _, ask := range []func(r rig) []byte{now, load} {
		r := made(t, 2)
		r.saves(text(60, 1), api.OK)
		first := ask(r)
		r.saves(text(70, 2), api.OK)
		second := ask(r)
		r.saves(text(80, 3), api.OK)
		r.lays(0, junk(2))
		r.loads(2, text(70, 2))
		r.lays(1, blank(2))
		r.flushes()
		r.noLoad(api.NotFound)
		rows.Expect(t, first, text(60, 1), "P20: the first answer")
		rows.Expect(t, second, text(70, 2), "P20: the second answer")
	}
}

// P20.3: what Save was handed stays as it was, its spare room too, and is saved without that; it may be written over behind the call: what counts, what is on the disk, and what is loaded is what it was.
func TestSaveKeepsNothing(t *testing.T) {
	for _, size := range append([]int{0}, sizesApart...) {
		r := made(t, 2)
		for i := range uint64(3) {
			b := rows.Guarded(text(size, 1))
			was := rows.Full(b)
			r.saves(b, api.OK)
			if rows.Full(b) != was {
				t.Errorf("P20.3: Save of %v bytes changes what it is handed", size)
			}
			rows.Flip(b[:cap(b)])
			r.knows(i+1, text(size, 1))
			r.anew().loads(i+1, text(size, 1))
		}
		r.sureOf(record(2, 3, text(size, 1)), record(2, 2, text(size, 1)))
	}
}

// P20.3: what a Save that tells a code was handed stays as it was, and may be written over likewise: what is pending, too, is what it was.
func TestCutSaveKeepsNothing(t *testing.T) {
	r := made(t, 2)
	r.Plan(api.Plan{Fail: []int{1, 4}, Stop: 6})
	for i, want := range []api.Code{api.Arg, api.Failed, api.Failed, api.Arg, api.Down, api.Down, api.Arg} {
		size := 100
		if want == api.Arg {
			size = 101
		}
		b := rows.Guarded(text(size, byte(i)))
		was := rows.Full(b)
		r.saves(b, want)
		if rows.Full(b) != was {
			t.Errorf("P20.3: Save, %v: changes what it is handed", want)
		}
		rows.Flip(b[:cap(b)])
		r.knows(0, nil)
	}
	// Of the save of which the flush failed both sectors are pending, and of that at which the power went the first one; which is lost.
	r.Up([]byte{1, 1, 0}, api.Plan{})
	r.loads(1, text(100, 2))
}
