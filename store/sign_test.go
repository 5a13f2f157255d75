package store_test

import (
	"slices"
	"testing"

	"tearoff/api"
	"tearoff/hss"
	"tearoff/rows"
)

// P22: the chapter's example: made, signed, the power lost, opened: the next index is the batch.
func TestExample(t *testing.T) {
	for _, batch := range []uint64{1, 2, 3, 4, 7} {
		k := key("key", batch, 1, 3)
		r := laid(t, free())
		r.creates(k, api.OK)
		r.signs(k, 0, []byte("a text"))
		r.Up(nil, api.Plan{})
		r = r.anew()
		r.is("key", k.state(batch, batch))
		r.signs(k, batch, []byte("a text"))
	}
}

// text: one of its own for each number.
func text(n uint64) []byte { return rows.Mixed(int(n%5)*30, byte(n)) }

// track is a key of a store that is alone on its disk, and what is saved of it.
type track struct {
	rig
	k        made
	reserved uint64
	next     uint64
	places   [2][]byte
	number   uint64 // of the record that counts
	saves    int
}

// tracked: a key that was just made.
func tracked(t *testing.T, k made) *track {
	t.Helper()
	r := laid(t, free())
	r.creates(k, api.OK)
	r.Up(nil, api.Plan{})
	return &track{rig: r, k: k, places: [2][]byte{record(1, k.bytes(0)), blank()}, number: 1}
}

// same tells where the key's state, or what is on the disk, isn't as it must be.
func (x *track) same() {
	x.Helper()
	x.is(x.k.name, x.k.state(x.reserved, x.next))
	x.counts(5*x.saves, 0)
	x.sureOf(x.places[0], x.places[1])
}

// sign signs with the next number, ahead of which it is saved, if all that are reserved are given out.
func (x *track) sign() {
	x.Helper()
	if x.next == x.reserved {
		x.reserved = min(x.k.total(), x.next+x.k.batch)
		x.number++
		x.saves++
		x.places[(x.number-1)%2] = record(x.number, x.k.bytes(x.reserved))
	}
	x.signs(x.k, x.next, text(x.next))
	x.next++
	x.same()
}

// exhausted tells where a key signs that has no number left, or the disk is written.
func (x *track) exhausted() {
	x.Helper()
	for range 3 {
		x.noSign(x.k.name, text(x.next), api.Exhausted)
		x.same()
	}
	x.noSign(x.k.name, make([]byte, api.MaxText+1), api.Arg)
	x.same()
}

// P22.3: Sign with all numbers up to the last one, each signature being just what layer 13 signs with the next number, then Exhausted; the disk is written just where all that are reserved are given out. Of levels of each sort, with batches of 1, of less than all, of all, of more, and of the most.
func TestSignAll(t *testing.T) {
	t.Parallel()
	for sort := range rows.SumCount {
		for _, heights := range [][]int{{1}, {2}, {3}, {1, 1}, {1, 2}, {2, 1}, {1, 1, 1}} {
			for _, batch := range []uint64{1, 2, 3, 4, 7, 8, 9, maxBatch} {
				if testing.Short() && batch > 3 && batch < maxBatch {
					continue
				}
				x := tracked(t, key("key", batch, sort, heights...))
				for range x.k.total() {
					x.sign()
				}
				x.exhausted()
				x.tells(x.k)
			}
		}
	}
}

// P22.3: of many levels, and of high trees: the first numbers. All of a key's trees are made for each.
func TestSignOfMany(t *testing.T) {
	t.Parallel()
	x := tracked(t, key("key", 3, 1, 1, 1, 1, 1, 1, 1, 1, 1))
	for range 12 {
		x.sign()
	}
	if testing.Short() {
		return
	}
	for _, heights := range [][]int{{5}, {5, 5}, {10}} {
		x := tracked(t, key("key", 2, 1, heights...))
		for range 3 {
			x.sign()
		}
		x.tells(x.k)
	}
}

// P22.3: each signature fits its text by the public key, and no other one, and names the places of its number.
func TestSignFits(t *testing.T) {
	for _, k := range []made{key("a", 3, 0, 2), key("b", 1, 1, 1, 1), key("c", 2, 2, 1, 2), key("d", maxBatch, 3, 1, 1, 1)} {
		r := laid(t, free(), free())
		r.creates(k, api.OK)
		public, e := r.Public(k.name)
		if e != api.OK {
			t.Fatalf("P22.3: Public: %v", e)
		}
		for n := range k.total() {
			sig, e := r.Sign(k.name, text(n))
			want, _ := hss.Places(k.l, n)
			at, f := hss.Read(public, sig)
			if e != api.OK || f != api.OK || !slices.Equal(at, want) || !hss.Fits(public, text(n), sig) || hss.Fits(public, append(text(n), 0), sig) {
				t.Errorf("P22.3: Sign(%q) with %v: %v, %v, %v", k.name, n, e, at, f)
			}
		}
	}
}

// P22.3: texts of no bytes, of one, of as many as may be, and alike ones: each takes a number of its own; one byte more, and many: Arg, and none is taken.
func TestSignTexts(t *testing.T) {
	most := rows.Mixed(api.MaxText, 1)
	k := key("key", 2, 1, 2)
	r := laid(t, free())
	r.creates(k, api.OK)
	refused := func() {
		t.Helper()
		for _, n := range []int{1, 2, 64, api.MaxText, 1 << 17} {
			r.stays(func() { r.noSign("key", rows.Mixed(api.MaxText+n, 1), api.Arg) })
		}
	}
	for n, text := range [][]byte{nil, most, most, {}} {
		refused()
		r.signs(k, uint64(n), text)
	}
	refused()
	r.noSign("key", most, api.Exhausted)
}

// P22.3: of an unknown name: NotFound, ahead of a text that is too long, on a store of no key and of some, up and down; names that are like one that is there are unknown.
func TestNotFound(t *testing.T) {
	for _, r := range []rig{laid(t, free()), laid(t, key("key", 2, 1, 2).area(), free(), key("\x00", 2, 1, 1).area())} {
		for range 2 {
			for _, name := range []string{"", "k", "ke", "keys", "Key", "key\x00", "key ", "\x00\x00", "ke\xf9", string(make([]byte, 300))} {
				r.stays(func() { r.none(name) })
			}
			r.Stop()
		}
	}
}

// P22.3: which code is told where several apply: Arg of a text that is too long ahead of Retired, Exhausted, Down and Failed; Retired ahead of Exhausted; both ahead of what the disk tells.
func TestSignOrder(t *testing.T) {
	long := make([]byte, api.MaxText+1)
	k, used := key("key", 1, 1, 1), key("used", 1, 1, 1)
	r := laid(t, k.area(), slices.Concat(record(1, used.bytes(2)), blank()), slices.Concat(record(1, used.as("gone").retired(2)), blank()), slices.Concat(record(1, used.as("rest").retired(1)), blank()))
	for range 2 {
		for _, name := range []string{"key", "used", "gone", "rest"} {
			r.noSign(name, long, api.Arg)
		}
		for name, want := range map[string]api.Code{"used": api.Exhausted, "gone": api.Retired, "rest": api.Retired} {
			r.noSign(name, nil, want)
		}
		r.Plan(api.Plan{Fail: []int{1}})
		r.noSign("key", long, api.Arg)
		r.counts(0, 0)
		r.noSign("key", nil, api.Failed)
		r.counts(1, 0)
		r.Stop()
		r.noSign("key", long, api.Arg)
		r.noSign("key", nil, api.Down)
		r.noSign("used", nil, api.Exhausted)
		r.noSign("gone", nil, api.Retired)
		r.Up(nil, api.Plan{})
	}
	r.signs(k, 0, nil)
}

// P22.3: while the disk is down a key signs with the numbers that are reserved, and tells Down behind them; when the power comes again it goes on, with no Open too.
func TestSignDown(t *testing.T) {
	for _, batch := range []uint64{1, 2, 3, 8, maxBatch} {
		k := key("key", batch, 1, 3)
		r := laid(t, free())
		r.creates(k, api.OK)
		r.Stop()
		r.stays(func() { r.noSign("key", nil, api.Down) })
		for n := uint64(0); n < 8; {
			r.Up(nil, api.Plan{})
			r.signs(k, n, nil)
			r.Stop()
			for n++; n%batch > 0 && n < 8; n++ {
				r.signs(k, n, nil)
			}
			if n < 8 {
				r.stays(func() { r.noSign("key", nil, api.Down) })
			}
		}
		r.noSign("key", nil, api.Exhausted)
	}
}

// P22.3: where a write, or the flush, fails by a plan, or the power goes there: Failed, or Down, and no number was taken: the next signature is signed with the same; the number that was to be reserved is what is saved then.
func TestSignFails(t *testing.T) {
	for _, begun := range []uint64{0, 1, 2} {
		for at := 1; at <= 5; at++ {
			for want, p := range map[api.Code]api.Plan{api.Failed: {Fail: []int{at}}, api.Down: {Stop: at}} {
				x := tracked(t, key("key", 2, 1, 3))
				for range 2 * begun {
					x.sign()
				}
				x.Up(nil, p)
				x.noSign("key", nil, want)
				x.counts(at, at-1)
				x.sureOf(x.places[0], x.places[1])
				x.noSign("key", make([]byte, api.MaxText+1), api.Arg)
				x.Up([]byte{1, 0, 2 + 4*9}, api.Plan{})
				x.saves = 0
				for range x.k.total() - 2*begun {
					x.sign()
				}
				x.exhausted()
			}
		}
	}
}

// P22.3: where a write fails, and nothing else is wrong, the next signature is signed at once, with no loss of power between.
func TestSignFailsOnce(t *testing.T) {
	for at := 1; at <= 5; at++ {
		k := key("key", 3, 1, 3)
		r := laid(t, free())
		r.creates(k, api.OK)
		r.Up(nil, api.Plan{Fail: []int{at, at + 1, at + 7}})
		for n := uint64(0); n < 8; {
			was := r.states()
			if sig, e := r.Sign("key", nil); e == api.OK {
				if string(sig) != string(k.signed(n, nil)) {
					t.Errorf("P22.3: Sign behind failures, with %v", n)
				}
				n++
			} else if e != api.Failed || len(sig) != 0 || r.states() != was {
				t.Errorf("P22.3: Sign at failures: %v, %v", e, r.states())
			}
		}
		r.noSign("key", nil, api.Exhausted)
		r.anew().is("key", k.state(8, 8))
	}
}
