package store_test

import (
	"fmt"
	"math"
	"slices"
	"testing"

	"tearoff/api"
	"tearoff/rows"
)

// P22.2: what Create makes: a key of the store, of which nothing is reserved, and 0 the next one. It is saved in the first area, byte by byte, by 4 writes and a flush: the record 1 of its counter, whose head is the key's, and whose total is how often its levels sign.
func TestCreate(t *testing.T) {
	for _, l := range madeLevels() {
		for i, batch := range []uint64{1, 2, 255, maxBatch} {
			k := made{names()[(len(l)+i)%len(names())], l, rows.Seed(sizeOf(l), byte(i)), batch}
			r := laid(t, free(), free())
			r.creates(k, api.OK)
			r.has(k.name)
			r.is(k.name, k.state(0, 0))
			r.counts(5, 0)
			r.sureOf(k.area(), free())
			q := r.anew()
			q.has(k.name)
			q.is(k.name, k.state(0, 0))
			if t.Failed() {
				t.Fatalf("it is %+v", k)
			}
		}
	}
}

// P22.2: what Create saved, written out, byte by byte, up to the record's sum.
func TestCreateWrittenOut(t *testing.T) {
	k := made{"b", []api.Pair{{Ots: 7, Tree: 0xf0000005}, {Ots: 7, Tree: 0xf0000005}}, api.Seed{Name: []byte("0123456789abcdef"), Secret: slices.Repeat([]byte{7}, 24)}, 2}
	r := laid(t, free())
	r.creates(k, api.OK)
	got := slices.Concat(r.Sure()...)
	want := "0000000000000001" + "00000054" + "0000000000000004" + "0000000000000002" + "0000000000000000" + "00" +
		"01" + "62" + "02" + "f000000500000007" + "f000000500000007" + "30313233343536373839616263646566" + "070707070707070707070707070707070707070707070707"
	if text := fmt.Sprintf("%x", got[:96]); text != want {
		t.Errorf("P22.2: Create saved %v, not %v", text, want)
	}
}

// P22.2: a key is made in the first area that is free, whichever of the areas have keys, and whatever lies in those that are free; only there is anything written. If none is free: Full.
func TestFirstFree(t *testing.T) {
	kinds := [][]byte{free(), slices.Concat(junk(), blank()), slices.Concat(blank(), junk())}
	k := key("key", 3, 1, 3)
	for mask := range 256 {
		var areas [][]byte
		for i := range 8 {
			if mask>>i&1 == 1 {
				areas = append(areas, key(string([]byte{'a' + byte(i)}), 1, 1, 1).area())
			} else {
				areas = append(areas, kinds[(i+mask)%3])
			}
		}
		r := laid(t, areas...)
		was := r.Names()
		if mask == 255 {
			r.stays(func() { r.creates(k, api.Full) })
			continue
		}
		r.creates(k, api.OK)
		first := slices.IndexFunc([]int{0, 1, 2, 3, 4, 5, 6, 7}, func(i int) bool { return mask>>i&1 == 0 })
		areas[first] = slices.Concat(record(1, k.bytes(0)), areas[first][64*half:])
		r.sureOf(areas...)
		r.counts(5, 0)
		want := append(was, "key")
		slices.Sort(want)
		r.has(want...)
		r.anew().has(want...)
	}
}

// unfit are keys that may not be, by the name, the levels, the seed, the batch, or by all.
func unfit(good string) []made {
	k := key(good, 3, 1, 3)
	out := []made{{}, {name: good}, {name: "", l: rows.Levels(1, 15), batch: maxBatch + 1}}
	for _, batch := range []uint64{0, maxBatch + 1, maxBatch + 2, 1 << 17, 1 << 32, 1<<32 + 1, 1 << 60, 1 << 63, 1<<63 + 3, math.MaxUint64 - 65535, math.MaxUint64} {
		x := k
		x.batch = batch
		out = append(out, x)
	}
	for _, name := range noNames() {
		out = append(out, k.as(name))
	}
	for _, l := range [][]api.Pair{nil, rows.Levels(1, 15), rows.Levels(1, 1, 25), rows.Levels(1, 10, 10, 10, 10, 10, 10, 1), rows.Levels(1, 1, 1, 1, 1, 1, 1, 1, 1, 1), rows.Levels(0, 1), {{Ots: 7}}, {{Tree: 10}}, {{Ots: 17, Tree: 10}}, {{Ots: 7, Tree: 5}}, slices.Concat(rows.Levels(1, 1), rows.Levels(3, 1))} {
		x := k
		x.l = l
		out = append(out, x)
	}
	for _, s := range rows.NoSeeds(24) {
		x := k
		x.seed = s
		out = append(out, x)
	}
	return out
}

// P22.2: Create of what may not be: Arg, ahead of all else that is wrong: on a disk that is down, whose areas are corrupt since, on a full store, of a name that is there; and the store and the disk stay.
func TestCreateArg(t *testing.T) {
	all := slices.Concat(unfit("key"), unfit("new"))
	refused := func(r rig) {
		t.Helper()
		for _, k := range all {
			r.stays(func() { r.creates(k, api.Arg) })
		}
	}
	k, other := key("key", 3, 1, 3), key("other", 3, 1, 1)
	refused(laid(t, free()))
	full := laid(t, k.area(), other.area())
	refused(full)
	full.Stop()
	refused(full)
	corrupt := laid(t, free(), k.area())
	layOne(corrupt.Disk, 0, rows.Junk(whole))
	refused(corrupt)
	failing := laid(t, free(), k.area())
	failing.Plan(api.Plan{Fail: []int{1, 2, 3, 4, 5}, Stop: 6})
	refused(failing)
}

// P22.2: names, levels, seeds and batches at the edges of what may be are made.
func TestCreateEdges(t *testing.T) {
	for _, k := range []made{
		key("a", 1, 0, 1), key("0123456789abcdef", maxBatch, 2, 10, 10, 10, 10, 10, 10), key("\x00", 1, 3, 1, 1, 1, 1, 1, 1, 1, 1), {"a", []api.Pair{rows.Pair(0, 8, 10)}, rows.Seed(32, 1), 1},
	} {
		r := laid(t, free())
		r.creates(k, api.OK)
		r.anew().is(k.name, k.state(0, 0))
	}
}

// created: what Create of a name must tell, where these are the areas' contents, gone through by hand; and the area in which it is made.
func created(kinds []int) (want api.Code, at int) {
	at = -1
	for i, kind := range kinds {
		switch kind {
		case isKey:
			return api.Exists, -1
		case isCorrupt, isNoKey:
			return api.Corrupt, -1
		case isFree, isHalfJunk:
			if at < 0 {
				at = i
			}
		}
	}
	if at < 0 {
		return api.Full, -1
	}
	return api.OK, at
}

// The kinds of content that areas come to have since the store was opened.
const (
	isKey = iota
	isOther
	isFree
	isHalfJunk
	isCorrupt
	isNoKey
	kindCount
)

// P22.2: Create goes through the areas as they are then, from the first one on: where an area has a key of the name: Exists; where it is neither free nor a key's: Corrupt; only behind all: Full. All contents of four areas, that came to be there since the store was opened. Where it tells a code, the store and the disk stay; where not, it is made in the first that is free.
func TestCreateSince(t *testing.T) {
	k := key("key", 3, 1, 3)
	var all []byte
	for kind := range kindCount {
		all = append(all, byte(kind))
	}
	rows.Every(4, all, func(row []byte) {
		var kinds []int
		var areas [][]byte
		for i, c := range row {
			other := key(string([]byte{'a' + byte(i)}), 3, 1, 2)
			kinds = append(kinds, int(c))
			areas = append(areas, [][]byte{
				slices.Concat(blank(), record(5, k.retired(2))), other.area(), free(), slices.Concat(junk(), blank()),
				rows.Junk(whole), slices.Concat(record(2, rows.Counter(other.state(0, 0), nil)), other.area()[:64*half]),
			}[c])
		}
		r := laid(t, free(), free(), free(), free())
		lay(r.Disk, areas...)
		want, at := created(kinds)
		if want != api.OK {
			r.stays(func() { r.creates(k, want) })
			r.has()
			r.Stop()
			r.stays(func() { r.creates(k, api.Down) })
			return
		}
		r.Stop()
		r.stays(func() { r.creates(k, api.Down) })
		r.Up(nil, api.Plan{})
		r.creates(k, api.OK)
		copy(areas[at], record(1, k.bytes(0)))
		r.sureOf(areas...)
		r.has("key")
		r.is("key", k.state(0, 0))
	})
}

// P22.2: of a name that is there: Exists, whatever its levels, its seed and its batch, whether there is room or not, and whatever became of the key: used, exhausted, retired. The key stays, and goes on.
func TestExists(t *testing.T) {
	k, other := key("key", 2, 1, 2), key("other", 1, 1, 1)
	for _, areas := range [][][]byte{{free()}, {free(), free()}, {other.area(), free()}} {
		r := laid(t, areas...)
		r.creates(k, api.OK)
		refused := func() {
			t.Helper()
			for _, x := range []made{k, key("key", maxBatch, 3, 2, 1), key("key", 1, 1, 2)} {
				r.stays(func() { r.creates(x, api.Exists) })
			}
		}
		for n := range uint64(4) {
			refused()
			r.signs(k, n, nil)
		}
		refused()
		r.noSign("key", nil, api.Exhausted)
		r.retires("key", api.OK)
		refused()
		r = r.anew()
		refused()
		r.noSign("key", nil, api.Retired)
	}
}

// P22.2: a key that another store made on the same disk since: it isn't this store's, but its name is there; and its area isn't free.
func TestCreatedByAnother(t *testing.T) {
	k, other := key("key", 2, 1, 2), key("other", 1, 1, 1)
	r := laid(t, free(), free())
	q := r.anew()
	q.creates(k, api.OK)
	r.stays(func() { r.creates(k, api.Exists) })
	r.none("key")
	r.creates(other, api.OK)
	r.sureOf(k.area(), other.area())
	r.has("other")
	q.has("key")
	r.stays(func() { q.creates(other, api.Exists) })
	r.stays(func() { r.creates(k.as("new"), api.Full) })
	r.anew().has("key", "other")
}

// left: what is in an area, of which so many sectors were written of a key's making.
func left(k made, sectors int) []byte {
	return slices.Concat(k.area()[:64*sectors], free()[64*sectors:])
}

// found tells where behind a making that was cut, in the first area of two, opened anew, the key isn't there as a whole, where it is by the bytes, or not at all. Then it may be made, or is there; and is used.
func (r rig) found(k made) {
	r.Helper()
	there := string(slices.Concat(r.Sure()[:whole]...)) == string(k.area())
	q := r.anew()
	if there {
		q.has("key")
		q.is("key", k.state(0, 0))
		q.creates(k, api.Exists)
	} else {
		q.has()
		q.none("key")
		q.creates(k, api.OK)
		q.sureOf(k.area())
	}
	q.tells(k)
	q.signs(k, 0, nil)
	q.anew().is("key", k.state(k.batch, k.batch))
}

// long: a key whose record has bytes in all sectors but the last, or two: the longest head that there is.
func long(name string) made { return key(name, 2, 0, 1, 1, 1, 1, 1, 1, 1, 1) }

// P22.2: Create of which a write, or the flush, fails: Failed: the store has no such key, and what was written ahead is pending, nothing else. Where that is the key as a whole, its name is there; else it can be made. Behind a loss of power, by each kind of choice, it is there as a whole, or not at all.
func TestCreateFails(t *testing.T) {
	t.Parallel()
	for _, k := range []made{key("key", 2, 1, 2), key("key", 2, 3, 1)} {
		for at := 1; at <= 5; at++ {
			begin := func() rig {
				r := laid(t, free(), free())
				r.Plan(api.Plan{Fail: []int{at}})
				r.creates(k, api.Failed)
				r.has()
				r.counts(at, at-1)
				r.sureOf()
				return r
			}
			r := begin()
			r.none("key")
			is := left(k, at-1)
			for i := range whole {
				if b, e := r.Read(i); e != api.OK || string(b) != string(is[64*i:64*i+64]) {
					t.Errorf("P22.2: the sector %v behind a failed Create: %x, %v", i, b, e)
				}
			}
			if string(is) == string(k.area()) {
				r.stays(func() { r.creates(k, api.Exists) })
				r.creates(k.as("other"), api.OK)
				r.sureOf(k.area(), k.as("other").area())
				r.has("other")
				r.anew().has("key", "other")
			} else {
				r.creates(k, api.OK)
				r.sureOf(k.area())
				r.signs(k, 0, nil)
			}
			rows.Every(min(at-1, 3), []byte{0, 1, 2 + 4*12, 3 + 4*12, 2 + 4*40, 3 + 4*40}, func(choices []byte) {
				r := begin()
				r.Up(append(choices, 0), api.Plan{})
				r.found(k)
			})
		}
	}
}

// P22.2: Create at which the power goes, at each write and at the flush, by each kind of choice for each pending write: Down, and the store has no such key. Opened anew behind it, it is there as a whole, or not at all.
func TestCreateCut(t *testing.T) {
	t.Parallel()
	for _, k := range []made{key("key", 2, 1, 2), long("key")} {
		few := []byte{0, 1, 2 + 4*12, 3 + 4*12, 2 + 4*53}
		if len(k.l) > 1 {
			few = []byte{0, 1, 3 + 4*30}
		}
		for at := 1; at <= 5; at++ {
			rows.Every(at-1, few, func(choices []byte) {
				r := laid(t, free(), free())
				r.Plan(api.Plan{Stop: at})
				r.creates(k, api.Down)
				r.has()
				r.creates(k, api.Down)
				r.counts(at, at-1)
				r.sureOf()
				r.Up(choices, api.Plan{})
				r.has()
				r.found(k)
			})
		}
	}
}

// P22.2: the power lost at a making, the store used on as it was, with no Open: it has no such key; where the key is there, its name is, and else it is made.
func TestCreateCutUsedOn(t *testing.T) {
	slow(t)
	k := key("key", 2, 1, 2)
	for at := 1; at <= 5; at++ {
		rows.Every(min(at-1, 2), rows.Choices(), func(choices []byte) {
			r := laid(t, free(), free())
			r.creates(key("a", 1, 1, 1), api.OK)
			r.Up(nil, api.Plan{Stop: at})
			r.creates(k, api.Down)
			r.Up(choices, api.Plan{})
			r.has("a")
			if string(slices.Concat(r.Sure()[whole:2*whole]...)) == string(k.area()) {
				r.stays(func() { r.creates(k, api.Exists) })
				r.none("key")
				r = r.anew()
			} else {
				r.creates(k, api.OK)
			}
			r.has("a", "key")
			r.signs(k, 0, nil)
			r.signs(key("a", 1, 1, 1), 0, nil)
		})
	}
}
