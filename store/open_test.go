package store_test

import (
	"slices"
	"testing"

	"tearoff/api"
	"tearoff/rows"
)

// P22.2: disks of every size: of fewer sectors than one area has: Arg. Else as many areas as fit whole, 8 at most: each is looked at, and a key is made in each; what is left over behind them isn't touched, whatever lies there.
func TestSizes(t *testing.T) {
	for sectors := 1; sectors <= api.MaxSectors; sectors++ {
		d, areas := rows.Disk(sectors), min(sectors/8, 8)
		for i := whole * areas; i < sectors; i++ {
			d.Write(i, junk()[:64])
		}
		d.Flush()
		if areas == 0 {
			noOpen(t, d, api.Arg)
			continue
		}
		r := on(t, d)
		r.has()
		var want []string
		for i := range areas {
			want = append(want, string([]byte{'a' + byte(i)}))
			r.creates(key(want[i], 1, 1, 1), api.OK)
		}
		r.creates(key("more", 1, 1, 1), api.Full)
		r.has(want...)
		r.anew().has(want...)
		for i := whole * areas; i < sectors; i++ {
			if b := r.Sure()[i]; string(b) != string(junk()[:64]) {
				t.Errorf("P22.2: of %v sectors the one behind the areas, %v: %x", sectors, i, b)
			}
		}
		layOne(d, areas-1, rows.Junk(whole))
		noOpen(t, d, api.Corrupt)
	}
}

// P22.2: a disk of too few sectors: Arg, while it is down, too, and whatever lies there; behind that it tells the same.
func TestTooFewSectors(t *testing.T) {
	for sectors := 1; sectors < whole; sectors++ {
		d := rows.Disk(sectors)
		for i := range sectors {
			d.Write(i, junk()[:64])
			noOpen(t, d, api.Arg)
		}
		d.Flush()
		d.Stop()
		noOpen(t, d, api.Arg)
		d.Up(nil, api.Plan{Fail: []int{1}, Stop: 2})
		noOpen(t, d, api.Arg)
	}
}

// P22.2: of a blank disk: a store without keys, all areas of which are free. Open does nothing to the disk.
func TestBlank(t *testing.T) {
	for areas := 1; areas <= 8; areas++ {
		r := laid(t, slices.Repeat([][]byte{free()}, areas)...)
		r.has()
		r.counts(0, 0)
		r.none("a")
		r.none("")
		r.stays(func() { r.anew() })
		r.sureOf()
	}
}

// content is what lies in an area, and what must be found in it: a key of this state, or that it is free, or corrupt.
type content struct {
	name          string
	first, second []byte
	want          api.Counted // of a key; else the zero value
	code          api.Code    // OK of a key, NotFound if it is free, or Corrupt
}

// contents are all sorts of them, the keys being k with one or the other reserved.
func contents(k made) []content {
	at := func(reserved uint64) api.Counted { return k.state(reserved, reserved) }
	is := func(number, reserved uint64) []byte { return record(number, k.bytes(reserved)) }
	retired := at(2)
	retired.Retired = true
	torn := slices.Concat(is(5, 1)[:64], is(5, 2)[64:])
	var none api.Counted
	return []content{
		{"made", is(1, 0), blank(), at(0), api.OK}, {"second", blank(), is(1, 0), at(0), api.OK}, {"beside junk", is(9, 3), junk(), at(3), api.OK}, {"beside torn", torn, is(4, 2), at(2), api.OK},
		{"greater second", is(1, 0), is(2, 2), at(2), api.OK}, {"greater first", is(3, 4), is(2, 2), at(4), api.OK}, {"greater, less reserved", is(3, 1), is(2, 2), at(1), api.OK},
		{"of one number", is(3, 2), is(3, 4), at(2), api.OK}, {"all", is(1<<63, k.total()), is(1, 0), at(k.total()), api.OK}, {"retired", record(2, k.retired(2)), is(1, 0), retired, api.OK}, {"not retired", record(2, k.retired(2)), is(3, 3), at(3), api.OK},
		{"older is no counter", record(1, []byte("none")), is(2, 2), at(2), api.OK}, {"older is no key", is(2, 2), record(1, rows.Counter(at(2), []byte("none"))), at(2), api.OK},
		{"blank", blank(), blank(), none, api.NotFound}, {"junk ahead", junk(), blank(), none, api.NotFound}, {"junk behind", blank(), junk(), none, api.NotFound}, {"torn ahead", torn, blank(), none, api.NotFound}, {"torn behind", blank(), torn, none, api.NotFound},
		{"number 0", is(0, 0), blank(), none, api.NotFound},
		{"junk", junk(), junk(), none, api.Corrupt}, {"torn twice", torn, torn, none, api.Corrupt}, {"torn and junk", torn, junk(), none, api.Corrupt}, {"number 0 and junk", is(0, 0), junk(), none, api.Corrupt},
		{"newer is no counter", record(3, []byte("none")), is(2, 2), none, api.Corrupt}, {"newer is no key", is(2, 2), record(3, rows.Counter(at(2), []byte("none"))), none, api.Corrupt},
		{"newer has another total", is(2, 2), record(3, rows.Counter(api.Counted{Total: k.total() + 1, Batch: 1}, k.head())), none, api.Corrupt},
		{"nothing", record(1, nil), blank(), none, api.Corrupt}, {"nothing, twice", record(1, nil), record(2, nil), none, api.Corrupt}, {"a text", blank(), record(7, []byte("a text of some bytes, and more than 25")), none, api.Corrupt},
	}
}

// P22.2: Open of each sort of content, in each area, beside such as are free and such as are keys': a key is one of the store's, with the state that is read, free is free, and Corrupt if an area is neither. Nothing is done to the disk.
func TestContents(t *testing.T) {
	k, other, last := key("key", 3, 1, 3), key("other", 1, 1, 1), key("z", 7, 3, 2, 1)
	for _, c := range contents(k) {
		for at := range 3 {
			areas := slices.Insert([][]byte{other.area(), last.area()}, at, slices.Concat(c.first, c.second))
			d := rows.Disk(25)
			lay(d, areas...)
			if c.code == api.Corrupt {
				noOpen(t, d, api.Corrupt)
				continue
			}
			r := on(t, d)
			r.counts(0, 0)
			r.sureOf(areas...)
			r.is("other", other.state(0, 0))
			r.is("z", last.state(0, 0))
			if c.code == api.OK {
				r.has("key", "other", "z")
				r.is("key", c.want)
				r.tells(k)
			} else {
				r.has("other", "z")
				r.none("key")
			}
			if t.Failed() {
				t.Fatalf("%v, in the area %v", c.name, at)
			}
		}
	}
}

// P22.2: what is pending is found as it reads.
func TestOpenPending(t *testing.T) {
	k := key("key", 3, 1, 3)
	d := rows.Disk(16)
	layOne(d, 1, k.area())
	r := on(t, d)
	r.has("key")
	r.counts(8, 8)
	d.Up(nil, api.Plan{})
	r.anew().has()
}

// corrupts tells where a disk of one area, or of two, the other one being another key's, isn't Corrupt with this record in it.
func corrupts(t *testing.T, b []byte, what ...any) {
	t.Helper()
	for _, areas := range [][][]byte{{slices.Concat(record(1, b), blank())}, {key("other", 1, 1, 1).area(), slices.Concat(blank(), record(2, b))}} {
		d := rows.Disk(16)
		lay(d, areas...)
		noOpen(t, d, api.Corrupt)
	}
	if t.Failed() {
		t.Fatalf("it is %v", what)
	}
}

// P22.2: a record that is no counter: Corrupt: fewer bytes than a counter has, another byte for whether it is retired, numbers that may not be, too long a head.
func TestNoCounter(t *testing.T) {
	k := key("key", 3, 1, 3)
	for n := range 25 {
		corrupts(t, k.bytes(0)[:n], n, "bytes")
	}
	for _, mark := range []byte{2, 3, 128, 255} {
		b := k.bytes(0)
		b[24] = mark
		corrupts(t, b, "marked", mark)
	}
	for _, x := range []api.Counted{{Total: 8}, {Total: 8, Batch: maxBatch + 1}, {Total: 8, Batch: 1 << 32}, {Total: 8, Batch: 1<<63 + 3}, {Total: 8, Batch: 3, Reserved: 9}, {Batch: 3}, {Total: 1<<60 + 1, Batch: 3}, {Total: 1<<63 + 8, Batch: 3}} {
		corrupts(t, rows.Counter(x, k.head()), x)
	}
	corrupts(t, rows.Counter(k.state(0, 0), append(k.head(), make([]byte, 201-len(k.head()))...)), "too long a head")
}

// P22.2: a counter whose head is none of a key: Corrupt: cut off, with a byte more, of a name, of levels or of a seed that may not be. Which heads are none, Parse's tests tell.
func TestNoKey(t *testing.T) {
	k := key("key", 3, 1, 3)
	head := k.head()
	none := func(head []byte, what ...any) {
		t.Helper()
		for _, total := range []uint64{8, 1, 1 << 60} {
			corrupts(t, rows.Counter(api.Counted{Total: total, Batch: 3}, head), what...)
		}
	}
	for n := range head {
		none(head[:n], n, "bytes of the head")
	}
	none(append(slices.Clone(head), 0), "a byte more")
	none(append([]byte{1}, head...), "a byte ahead")
	for _, name := range []string{"", "seventeen bytes..", string(make([]byte, 40))} {
		none(headByHand(name, k.l, k.seed), "name", name)
	}
	for _, l := range append(highLevels()[:9], nil, rows.Levels(1, 3, 15), rows.Levels(1, 10, 10, 10, 10, 10, 10, 1), slices.Repeat(rows.Levels(1, 1), 9), []api.Pair{{Ots: 7, Tree: 5}}, []api.Pair{{Ots: 5, Tree: 9}, {Ots: 1, Tree: 5}}, []api.Pair{{Ots: 17, Tree: 9}}) {
		if b := headByHand("key", l, k.seed); len(b) <= 200 {
			none(b, "levels", l)
		}
	}
	for _, s := range []api.Seed{rows.Seed(32, 1), rows.Seed(23, 1), {Name: k.seed.Name}, {}} {
		none(headByHand("key", k.l, s), "seed", s)
	}
}

// P22.2: a counter of a key's head, the total of which isn't how often its levels sign: Corrupt. That of a key whose head is like it but for the heights is another.
func TestOtherTotal(t *testing.T) {
	for _, heights := range [][]int{{1}, {3}, {2, 1}, {10, 10, 10, 10, 10, 10}} {
		k := key("key", 3, 1, heights...)
		total := k.total()
		for _, other := range []uint64{1, total - 1, total + 1, total / 2, 2 * total, total + 256, total + 1<<32, 1 << 59, 1 << 60} {
			if other != total {
				corrupts(t, rows.Counter(api.Counted{Total: other, Batch: 3}, k.head()), "total", other, "of", total)
			}
		}
		r := laid(t, slices.Concat(blank(), record(1, k.bytes(0))))
		r.is("key", k.state(0, 0))
	}
}

// P22.2: keys of each total, batch and how many are reserved: the state is what is read, and the next one what is reserved.
func TestOpenStates(t *testing.T) {
	for _, heights := range [][]int{{1}, {3}, {2, 1, 1}, {10, 10}, {10, 10, 10, 10, 10, 10}} {
		for _, batch := range []uint64{1, 2, 3, 255, 256, maxBatch - 1, maxBatch} {
			k := key("key", batch, 3, heights...)
			for _, reserved := range []uint64{0, 1, k.total() / 2, k.total() - 1, k.total()} {
				r := laid(t, slices.Concat(record(1, k.bytes(0)), record(2, k.bytes(reserved))), slices.Concat(blank(), record(1, k.as("retired").retired(reserved))))
				r.is("key", k.state(reserved, reserved))
				x := k.state(reserved, reserved)
				x.Retired = true
				r.is("retired", x)
			}
		}
	}
}

// P22.2: two areas with keys of one name: Corrupt, whichever two they are, and whether their keys are alike or not.
func TestTwice(t *testing.T) {
	k := key("key", 3, 1, 3)
	seeded, batched := k, k
	seeded.seed, batched.batch = rows.Seed(24, 200), 4
	for i := range 8 {
		for j := range i {
			for _, twin := range [][]byte{k.area(), seeded.area(), batched.area(), key("key", 3, 0, 1, 1).area(), slices.Concat(record(1, k.bytes(0)), record(2, k.retired(8)))} {
				areas := slices.Repeat([][]byte{free()}, 8)
				for n := range areas {
					if n%3 > 0 {
						areas[n] = key(string([]byte{'a' + byte(n)}), 1, 1, 1).area()
					}
				}
				areas[i], areas[j] = twin, k.area()
				d := rows.Disk(64)
				lay(d, areas...)
				noOpen(t, d, api.Corrupt)
			}
		}
	}
}

// P22.2: names that are like one another, but aren't the same, are two keys', also where all else is alike.
func TestAlike(t *testing.T) {
	for _, two := range [][2]string{{"a", "a\x00"}, {"a", "A"}, {"a", "aa"}, {"\xff", "\xff\xff"}, {"0123456789abcde", "0123456789abcdef"}, {"\xc3\xa9", "e\xcc\x81"}, {"\x00", "\x00\x00"}} {
		k := key("key", 3, 1, 3)
		r := laid(t, k.as(two[1]).area(), free(), k.as(two[0]).area())
		want := slices.Clone(two[:])
		slices.Sort(want)
		r.has(want...)
	}
}

// P22.2: while the disk is down: Down, whatever lies there; when the power comes again it is what it is.
func TestOpenDown(t *testing.T) {
	k := key("key", 3, 1, 3)
	for _, c := range []struct {
		areas [][]byte
		want  api.Code
		names []string
	}{
		{[][]byte{free()}, api.OK, nil}, {[][]byte{free(), k.area()}, api.OK, []string{"key"}},
		{[][]byte{rows.Junk(whole)}, api.Corrupt, nil}, {[][]byte{k.area(), rows.Junk(whole), k.area()}, api.Corrupt, nil}, {[][]byte{k.area(), k.area()}, api.Corrupt, nil},
	} {
		d := rows.Disk(whole*len(c.areas) + 3)
		lay(d, c.areas...)
		d.Stop()
		noOpen(t, d, api.Down)
		noOpen(t, d, api.Down)
		d.Up(nil, api.Plan{Fail: []int{1}, Stop: 2})
		if c.want == api.OK {
			on(t, d).has(c.names...)
		} else {
			noOpen(t, d, c.want)
		}
		if n, m := d.Count(); n != 0 || m != 0 {
			t.Errorf("P22.2: Open: Count: %v, %v", n, m)
		}
	}
}

// P22.2: opened anew, as often as one likes, with nothing done between: it is the same each time, and nothing is done to the disk.
func TestOpenOften(t *testing.T) {
	k := key("key", 3, 1, 3)
	r := laid(t, free(), k.area())
	r.signs(k, 0, nil)
	for range 5 {
		q := r.anew()
		q.is("key", k.state(3, 3))
		q.counts(5, 0)
		r = q
	}
	r.signs(k, 3, nil)
	r.counts(10, 0)
}
