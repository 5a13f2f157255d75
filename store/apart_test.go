package store_test

import (
	"bytes"
	"slices"
	"testing"

	"tearoff/api"
	"tearoff/rows"
	"tearoff/store"
)

// guarded: a key whose levels and seed have spare room, and what they are with it.
func guarded(k made) made {
	l := append(make([]api.Pair, 0, len(k.l)+2), k.l...)
	copy(l[len(l):cap(l)], []api.Pair{{Ots: 1, Tree: 5}, {Ots: 2, Tree: 6}})
	return made{k.name, l, api.Seed{Name: rows.Guarded(k.seed.Name), Secret: rows.Guarded(k.seed.Secret)}, k.batch}
}

// full: all of what a key was made of, with its spare room.
func (k made) full() string {
	l := k.l[:cap(k.l)]
	return string(headByHand("", l, api.Seed{})) + rows.Full(k.seed.Name) + rows.Full(k.seed.Secret)
}

// overwrite writes over what a key was made of, with its spare room.
func (k made) overwrite() {
	clear(k.l[:cap(k.l)])
	rows.Flip(k.seed.Name[:cap(k.seed.Name)])
	rows.Flip(k.seed.Secret[:cap(k.seed.Secret)])
}

// some are keys of one level, of two, and of as many as may be.
func some() []made {
	return []made{key("a", 2, 1, 2), key("0123456789abcdef", 1, 3, 1, 1), long("key")}
}

// P22.1: Head keeps its answer apart from the seed that it is handed, and from its other answers, and leaves the seed as it was, its spare room too; also where it tells a code.
func TestHeadApart(t *testing.T) {
	for _, k := range append(some(), made{name: "a", l: rows.Levels(0, 1), seed: rows.Seed(24, 1)}) {
		how := rows.Apart(func(in [][]byte) []byte {
			b, _ := store.Head(k.name, k.l, api.Seed{Name: in[0], Secret: in[1]})
			return b
		}, k.seed.Name, k.seed.Secret)
		if how != "" {
			t.Errorf("P22.1: Head, %q, %v", k.name, how)
		}
	}
}

// P22.1: Head leaves the levels as they were, their spare room too, and keeps nothing of them.
func TestHeadKeepsNothing(t *testing.T) {
	for _, k := range some() {
		g := guarded(k)
		was := g.full()
		head, _ := store.Head(g.name, g.l, g.seed)
		if g.full() != was {
			t.Errorf("P22.1: Head of %q changes what it is handed", k.name)
		}
		g.overwrite()
		if !bytes.Equal(head, k.head()) {
			t.Errorf("P22.1: Head of %q hangs on what was written over", k.name)
		}
	}
}

// P22.1: Parse keeps the seed that it tells apart from what it is handed, its Name from its Secret, and from its other answers; also where it tells Malformed.
func TestParseApart(t *testing.T) {
	for _, k := range some() {
		for _, head := range [][]byte{k.head(), k.head()[1:]} {
			how := rows.ApartList(func(in [][]byte) [][]byte {
				_, _, s, _ := store.Parse(in[0])
				return [][]byte{s.Name, s.Secret}
			}, head)
			if how != "" {
				t.Errorf("P22.1: Parse, %q, %v", k.name, how)
			}
		}
	}
}

// P22.1: the name and the levels that Parse told stay, whatever becomes of what was handed in, and of other answers.
func TestParseStays(t *testing.T) {
	for _, k := range some() {
		head := k.head()
		name, l, _, _ := store.Parse(head)
		_, other, _, _ := store.Parse(head)
		clear(other[:cap(other)])
		rows.Flip(head)
		if name != k.name || !slices.Equal(l, k.l) {
			t.Errorf("P22.1: Parse told %q, %v, not %q, %v", name, l, k.name, k.l)
		}
		isHead(t, k.head())
	}
}

// P22.2: Create leaves what it is handed as it was, its spare room too, whatever it tells, and keeps nothing of it: written over behind the call the key is what it was, and so is what is saved behind it.
func TestCreateApart(t *testing.T) {
	for _, k := range some() {
		r, g := laid(t, free(), free()), guarded(k)
		was := g.full()
		r.creates(g, api.OK)
		r.creates(g, api.Exists)
		g.batch = 0
		r.creates(g, api.Arg)
		r.Plan(api.Plan{Fail: []int{6}})
		g.name, g.batch = "other", 1
		r.creates(g, api.Failed)
		if g.full() != was {
			t.Errorf("P22.2: Create of %q changes what it is handed", k.name)
		}
		g.overwrite()
		r.has(k.name)
		r.tells(k)
		r.signs(k, 0, []byte("a text"))
		r.is(k.name, k.state(min(k.batch, k.total()), 1))
		r.sureOf(record(1, k.bytes(0)), record(2, k.bytes(min(k.batch, k.total()))))
		q := r.anew()
		q.tells(k)
		q.signs(k, k.batch, []byte("a text"))
	}
}

// P22.3: Sign keeps its answer apart from the text that it is handed, and from its other answers, and leaves the text as it was, its spare room too.
func TestSignApart(t *testing.T) {
	k := key("key", 1, 1, 2)
	for _, size := range []int{0, 1, 64, 1000} {
		text := rows.Mixed(size, 1)
		how := rows.Apart(func(in [][]byte) []byte {
			r := laid(t, slices.Concat(record(1, k.bytes(2)), blank()))
			r.Sign("key", rows.Mixed(9, 1))
			return bytesOf(r.Sign("key", in[0]))
		}, text)
		// Behind the first signature the index is 3, so that each call answers the same.
		if how != "" {
			t.Errorf("P22.3: Sign of %v bytes %v", size, how)
		}
	}
	r := laid(t, k.area())
	was := rows.Guarded(make([]byte, api.MaxText+1))
	kept := rows.Full(was)
	r.noSign("key", was, api.Arg)
	r.noSign("none", was, api.NotFound)
	if rows.Full(was) != kept {
		t.Error("P22.3: Sign that tells a code changes the text")
	}
}

// bytesOf: what a call answered, of which the code is looked at elsewhere.
func bytesOf(b []byte, _ api.Code) []byte { return b }

// P22.3: what Sign, Public, State and Names answered may be written over, their spare room too: asked for again it is as it was, what was answered ahead stays, and so does what is signed and saved behind it.
func TestAnswersApart(t *testing.T) {
	k, other := key("key", 2, 1, 2), key("other", 1, 1, 1)
	for _, r := range []rig{laid(t, k.area(), other.area()), laid(t, free(), free())} {
		r.Create(k.name, k.l, k.seed, k.batch)
		r.Create(other.name, other.l, other.seed, other.batch)
		ahead, list, first := bytesOf(r.Public("key")), r.Names(), []byte(nil)
		for n := range uint64(4) {
			public, names := bytesOf(r.Public("key")), r.Names()
			rows.Flip(public[:cap(public)])
			clear(names[:cap(names)])
			x, _ := r.State("key")
			x.Next, x.Reserved, x.Retired = 0, 4, true
			r.is("key", k.state((n+1)/2*2, n))
			sig := bytesOf(r.Sign("key", nil))
			if !bytes.Equal(sig, k.signed(n, nil)) {
				t.Errorf("P22.3: Sign with %v behind answers that were written over", n)
			}
			if rows.Flip(sig[:cap(sig)]); n == 0 {
				first = bytesOf(r.Sign("other", nil))
			}
			r.tells(k)
			r.has("key", "other")
		}
		if !bytes.Equal(ahead, k.public()) || !slices.Equal(list, []string{"key", "other"}) || !bytes.Equal(first, other.signed(0, nil)) {
			t.Errorf("P22.3: answered ahead: %x, %v, %.40x", ahead, list, first)
		}
	}
}

// P22.2, P22.3: two stores on two disks don't touch one another: what is made, signed, retired, lost and written over by hand in the one is nothing to the other.
func TestTwoStores(t *testing.T) {
	k, other := key("key", 2, 1, 2), key("other", 1, 1, 1)
	a, b := laid(t, free(), free()), laid(t, free())
	a.creates(k, api.OK)
	b.has()
	b.none("key")
	b.sureOf()
	b.creates(k, api.OK)
	a.stays(func() {
		b.signs(k, 0, nil)
		b.signs(k, 1, nil)
	})
	b.stays(func() {
		a.signs(k, 0, nil)
		a.creates(other, api.OK)
		a.signs(other, 0, nil)
		a.retires("key", api.OK)
	})
	a.noSign("key", nil, api.Retired)
	b.signs(k, 2, nil)
	a.stays(func() {
		b.Stop()
		b.Up([]byte{1}, api.Plan{Fail: []int{whole + 1}})
		layOne(b.Disk, 0, rows.Junk(whole))
		b.creates(other, api.Corrupt)
		b.signs(k, 3, nil)
	})
	a.signs(other, 1, nil)
	a.anew().has("key", "other")
}

// P22.2: two stores of one disk hold each its own: what the one made since it was opened isn't the other's, nor is what the one signed told by the other.
func TestTwoOfOneDisk(t *testing.T) {
	k := key("key", 8, 1, 3)
	a := laid(t, free(), k.area())
	b := a.anew()
	a.signs(k, 0, nil)
	b.is("key", k.state(0, 0))
	a.creates(key("new", 1, 1, 1), api.OK)
	b.none("new")
	b.has("key")
	a.has("key", "new")
	b.anew().has("key", "new")
}
