package store_test

import (
	"bytes"
	"crypto/sha256"
	"fmt"
	"slices"
	"sync"
	"testing"

	"tearoff/api"
	"tearoff/disk"
	"tearoff/hss"
	"tearoff/rows"
	"tearoff/store"
)

// half is how many sectors each place of an area has, and whole how many all of it has; maxBatch is the greatest batch.
const (
	half     = 4
	whole    = 8
	maxBatch = 65536
)

// slow: a test that takes some seconds runs beside other ones, and not at all with -short.
func slow(t *testing.T) {
	t.Helper()
	if testing.Short() {
		t.Skip("it takes some seconds")
	}
	t.Parallel()
}

// sums is Go's own SHA-256, of which records are put together by hand.
var sums = rows.Sum(func(b []byte) []byte {
	sum := sha256.Sum256(b)
	return sum[:]
})

// record: by hand, a record of a number and bytes, as long as a place of an area; blank and junk: such as are none.
func record(number uint64, b []byte) []byte { return sums.Record(half, number, b) }
func blank() []byte                         { return rows.Blank(half) }
func junk() []byte                          { return rows.Junk(half) }

// made is what a key is made of.
type made struct {
	name  string
	l     []api.Pair
	seed  api.Seed
	batch uint64
}

// key: one that may be, of a sort of sums and of heights, its seed being its own.
func key(name string, batch uint64, sort int, heights ...int) made {
	l := rows.Levels(sort, heights...)
	return made{name: name, l: l, seed: rows.Seed(sizeOf(l), name[0]), batch: batch}
}

// as: the same with another name.
func (k made) as(name string) made {
	k.name = name
	return k
}

// sizeOf: how many bytes the sums of levels have; high: how high the trees of levels are together.
var sizeOf, high = rows.SizeOf, rows.High

// headByHand: a key's head, byte by byte, whether it may be or not. Of more than 255 bytes, or levels, it tells how many by the last byte of that.
func headByHand(name string, l []api.Pair, s api.Seed) []byte {
	out := append([]byte{byte(len(name))}, name...)
	out = append(out, byte(len(l)))
	for _, p := range l {
		out = slices.Concat(out, rows.Number(uint64(p.Tree), 4), rows.Number(uint64(p.Ots), 4))
	}
	return slices.Concat(out, s.Name, s.Secret)
}

// head: the key's.
func (k made) head() []byte { return headByHand(k.name, k.l, k.seed) }

// total: how often it signs.
func (k made) total() uint64 { return 1 << high(k.l) }

// state: its counter's, with so many reserved, and this next one.
func (k made) state(reserved, next uint64) api.Counted {
	return api.Counted{Total: k.total(), Batch: k.batch, Reserved: reserved, Next: next}
}

// bytes: its counter as bytes, with so many reserved.
func (k made) bytes(reserved uint64) []byte { return rows.Counter(k.state(reserved, 0), k.head()) }

// retired: the same of one that is.
func (k made) retired(reserved uint64) []byte {
	x := k.state(reserved, 0)
	x.Retired = true
	return rows.Counter(x, k.head())
}

// area: a key's area behind its making.
func (k made) area() []byte { return slices.Concat(record(1, k.bytes(0)), blank()) }

// free: an area in which nothing is.
func free() []byte { return rows.Blank(whole) }

// rig is a disk with a store on it, and the test that looks at them.
type rig struct {
	*testing.T
	*disk.Disk
	*store.Store
}

// on: the store of a disk.
func on(t *testing.T, d *disk.Disk) rig {
	t.Helper()
	s, e := store.Open(d)
	if e != api.OK || s == nil {
		t.Fatalf("P22.2: Open: %v, %v", s, e)
	}
	return rig{t, d, s}
}

// laid: the store of a disk that surely has these areas, and a sector behind them that is left over; its count is 0.
func laid(t *testing.T, areas ...[]byte) rig {
	t.Helper()
	d := rows.Disk(whole*len(areas) + 1)
	lay(d, areas...)
	return on(t, d)
}

// lay: these areas are written to a disk, from its first one on, and surely. The power comes again, so that all is counted anew.
func lay(d *disk.Disk, areas ...[]byte) {
	for i, b := range areas {
		layOne(d, i, b)
	}
	d.Flush()
	d.Up(nil, api.Plan{})
}

// layOne: an area is written. It panics, if it can't be.
func layOne(d *disk.Disk, area int, b []byte) {
	for i := range whole {
		if d.Write(whole*area+i, b[64*i:64*i+64]) != api.OK {
			panic("a sector can't be written")
		}
	}
}

// anew: the store opened anew.
func (r rig) anew() rig {
	r.Helper()
	return on(r.T, r.Disk)
}

// noOpen opens a disk, and tells where it isn't this code that is told, and nothing else.
func noOpen(t *testing.T, d *disk.Disk, want api.Code) {
	t.Helper()
	if s, e := store.Open(d); e != want || s != nil {
		t.Errorf("P22.2: Open: %v, %v, not %v", s, e, want)
	}
}

// creates makes a key, and tells where the code isn't this one.
func (r rig) creates(k made, want api.Code) {
	r.Helper()
	if e := r.Create(k.name, k.l, k.seed, k.batch); e != want {
		r.Errorf("P22.2: Create(%.20q, %v, %v): %v, not %v", k.name, k.l, k.batch, e, want)
	}
}

// wanted: what layer 13 answered.
var wanted sync.Map

// signed: what layer 13 signs. Each is signed but once in all tests, since that takes its time.
func (k made) signed(n uint64, text []byte) []byte {
	type what struct{ head, text string }
	at := what{string(k.head()), string(text) + string(rows.Number(n, 8))}
	if sig, there := wanted.Load(at); there {
		return sig.([]byte)
	}
	sig, e := hss.Sign(k.l, k.seed, n, text)
	if e != api.OK {
		panic("layer 13 doesn't sign")
	}
	wanted.Store(at, sig)
	return sig
}

// public: the key's, likewise.
func (k made) public() []byte {
	at := string(k.head())
	if public, there := wanted.Load(at); there {
		return public.([]byte)
	}
	public, e := hss.Public(k.l, k.seed)
	if e != api.OK {
		panic("layer 13 has no such key")
	}
	wanted.Store(at, public)
	return public
}

// signs signs a text, and tells where it isn't what layer 13 signs with the number n.
func (r rig) signs(k made, n uint64, text []byte) {
	r.Helper()
	sig, e := r.Sign(k.name, text)
	if e != api.OK || !bytes.Equal(sig, k.signed(n, text)) {
		r.Errorf("P22.3: Sign(%.20q, %v bytes): %v bytes, %v, not what is signed with %v", k.name, len(text), len(sig), e, n)
	}
}

// noSign signs a text, and tells where it isn't this code that is told, and nothing else, or the store isn't as it was.
func (r rig) noSign(name string, text []byte, want api.Code) {
	r.Helper()
	was := r.states()
	if sig, e := r.Sign(name, text); e != want || len(sig) != 0 {
		r.Errorf("P22.3: Sign(%.20q, %v bytes): %v bytes, %v, not %v", name, len(text), len(sig), e, want)
	}
	if got := r.states(); got != was {
		r.Errorf("P22.3: Sign(%.20q, %v bytes), %v: %v, not %v", name, len(text), want, got, was)
	}
}

// retires retires a key, and tells where it isn't this code that is told, or its state isn't what it must be then.
func (r rig) retires(name string, want api.Code) {
	r.Helper()
	x, _ := r.State(name)
	if e := r.Retire(name); e != want {
		r.Errorf("P22.3: Retire(%.20q): %v, not %v", name, e, want)
	}
	x.Retired = x.Retired || want == api.OK
	if got, _ := r.State(name); got != x {
		r.Errorf("P22.3: State(%.20q) behind Retire: %+v, not %+v", name, got, x)
	}
}

// is tells where a key's state is another one.
func (r rig) is(name string, want api.Counted) {
	r.Helper()
	if x, e := r.State(name); e != api.OK || x != want {
		r.Errorf("P22.3: State(%.20q): %+v, %v, not %+v", name, x, e, want)
	}
}

// tells tells where a key's public key isn't what it must be.
func (r rig) tells(k made) {
	r.Helper()
	if public, e := r.Public(k.name); e != api.OK || !bytes.Equal(public, k.public()) {
		r.Errorf("P22.3: Public(%.20q): %x, %v, not %x", k.name, public, e, k.public())
	}
}

// none tells where the store has a key of this name.
func (r rig) none(name string) {
	r.Helper()
	r.noSign(name, nil, api.NotFound)
	r.noSign(name, make([]byte, api.MaxText+1), api.NotFound)
	if public, e := r.Public(name); e != api.NotFound || len(public) != 0 {
		r.Errorf("P22.3: Public(%.20q): %x, %v, not NotFound", name, public, e)
	}
	if x, e := r.State(name); e != api.NotFound || x != (api.Counted{}) {
		r.Errorf("P22.3: State(%.20q): %+v, %v, not NotFound", name, x, e)
	}
	if e := r.Retire(name); e != api.NotFound {
		r.Errorf("P22.3: Retire(%.20q): %v, not NotFound", name, e)
	}
	if slices.Contains(r.Names(), name) {
		r.Errorf("P22.3: Names: %q", r.Names())
	}
}

// has tells where the store's names aren't these.
func (r rig) has(want ...string) {
	r.Helper()
	if got := r.Names(); !slices.Equal(got, want) {
		r.Errorf("P22.3: Names: %.20q, not %.20q", got, want)
	}
}

// states: the names, and each key's state.
func (r rig) states() string {
	out := ""
	for _, name := range r.Names() {
		x, e := r.State(name)
		out += fmt.Sprintf("%q %+v %v\n", name, x, e)
	}
	return out
}

// look: the states, and all that can be told of the disk.
func (r rig) look() string {
	n, m := r.Count()
	out := fmt.Sprintf("%v%v counted, %v pending\n%x\n", r.states(), n, m, r.Sure())
	for i := range r.Sure() {
		b, e := r.Read(i)
		out += fmt.Sprintf("%x %v\n", b, e)
	}
	return out
}

// stays does something, and tells where the store, or the disk, isn't as it was behind it.
func (r rig) stays(do func()) {
	r.Helper()
	was := r.look()
	do()
	if got := r.look(); got != was {
		r.Errorf("P22: the store, or the disk:\n%v\nnot\n%v", got, was)
	}
}

// sureOf tells where these aren't what the areas surely are, or a sector behind them isn't blank.
func (r rig) sureOf(areas ...[]byte) {
	r.Helper()
	want := make([]byte, 64*len(r.Sure()))
	copy(want, slices.Concat(areas...))
	if got := slices.Concat(r.Sure()...); !bytes.Equal(got, want) {
		r.Errorf("P22: Sure:\n%x\nnot\n%x", got, want)
	}
}

// counts tells where the disk hasn't counted so many, or has not so many pending.
func (r rig) counts(counted, pending int) {
	r.Helper()
	if n, m := r.Count(); n != counted || m != pending {
		r.Errorf("P22: Count: %v, %v, not %v, %v", n, m, counted, pending)
	}
}
