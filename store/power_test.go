package store_test

import (
	"math/rand/v2"
	"slices"
	"sync"
	"testing"

	"tearoff/api"
	"tearoff/hss"
	"tearoff/rows"
	"tearoff/store"
)

// signer is a key of a store that is opened again and again, and what must hold of what it signs.
type signer struct {
	made
	from    uint64 // the least index with which it didn't sign, nor with a greater one
	sure    bool   // whether its making returned, or it was found where nothing was pending
	retired bool
}

// keeper is a store that is opened again and again, and the keys that were made in it, or were to be.
type keeper struct {
	rig
	all map[string]*signer
}

// keeperOf: a blank disk of so many areas.
func keeperOf(t *testing.T, areas int) *keeper {
	t.Helper()
	return &keeper{rig: laid(t, slices.Repeat([][]byte{free()}, areas)...), all: map[string]*signer{}}
}

// make makes a key.
func (g *keeper) make(k made) api.Code {
	e := g.Create(k.name, k.l, k.seed, k.batch)
	if g.all[k.name] == nil && (e == api.OK || e == api.Failed || e == api.Down) {
		g.all[k.name] = &signer{made: k}
	}
	if e == api.OK {
		g.all[k.name].sure = true
	}
	return e
}

// retire retires a key.
func (g *keeper) retire(name string) {
	if g.Retire(name) == api.OK {
		g.all[name].retired = true
	}
}

// signText is what the keys sign in these tests.
var signText = []byte("a text that all keys sign")

// indexes: of each signature the index that it names, by its key's head. Each is read but once in all tests.
var indexes sync.Map

// index: the index of a key's signature. It tells where that doesn't fit, or isn't what layer 13 signs with the index.
func (g *keeper) index(k made, sig []byte) uint64 {
	g.Helper()
	at := string(k.head()) + string(sig)
	if n, there := indexes.Load(at); there {
		return n.(uint64)
	}
	places, e := hss.Read(k.public(), sig)
	if e != api.OK || !hss.Fits(k.public(), signText, sig) {
		g.Fatalf("P22.4: a signature of %q doesn't fit: %v", k.name, e)
	}
	n := uint64(0)
	for i, p := range k.l {
		n = n<<rows.HeightOf(p) + uint64(places[i])
	}
	if string(k.signed(n, signText)) != string(sig) {
		g.Fatalf("P22.4: a signature of %q with %v isn't layer 13's", k.name, n)
	}
	indexes.Store(at, n)
	return n
}

// sign signs with a key, and tells where the index isn't greater than those ahead. It answers the code.
func (g *keeper) sign(name string) api.Code {
	g.Helper()
	sig, e := g.Sign(name, signText)
	if e != api.OK {
		if len(sig) > 0 {
			g.Fatalf("P22.3: Sign: %v bytes, %v", len(sig), e)
		}
		return e
	}
	x := g.all[name]
	if n := g.index(x.made, sig); n < x.from || x.retired {
		g.Fatalf("P22.4: %q signs with %v, behind all below %v, retired: %v", name, n, x.from, x.retired)
	} else {
		x.from = n + 1
	}
	return e
}

// signAll signs with a key as often as it does, and answers the code behind that.
func (g *keeper) signAll(name string) api.Code {
	g.Helper()
	for {
		if e := g.sign(name); e != api.OK {
			return e
		}
	}
}

// lost opens the store anew behind a loss of power, and tells where a key isn't there the making of which returned, or one isn't as it must be.
func (g *keeper) lost() {
	g.Helper()
	was := g.rig
	g.rig = g.anew()
	g.found(was)
}

// found tells where the keys that are there aren't those that must be, or may, since they were what the store told then.
func (g *keeper) found(was rig) {
	g.Helper()
	for _, name := range g.Names() {
		if g.all[name] == nil {
			g.Fatalf("P22.4: a key %q, that nobody made", name)
		}
	}
	for name, x := range g.all {
		now, e := g.State(name)
		if e != api.OK {
			if x.sure {
				g.Fatalf("P22.4: the key %q isn't there: %v", name, e)
			}
			continue
		}
		g.tells(x.made)
		ahead, e := was.State(name)
		if e != api.OK {
			ahead = x.state(0, 0)
		}
		if now.Total != x.total() || now.Batch != x.batch || now.Next != now.Reserved || now.Next < max(x.from, ahead.Next) || now.Next > min(ahead.Next+x.batch, x.total()) || x.retired && !now.Retired {
			g.Fatalf("P22.4: the key %q behind a loss of power: %+v, it was %+v, and signed below %v", name, now, ahead, x.from)
		}
		x.sure = true
	}
}

// P22.4: the power lost at each write and at each flush that there is while a key is made and signs till none is left, by each kind of choice for each pending write, and opened anew: the key is there as a whole, or not at all, no two signatures have one index, they rise, and each fits.
func TestPowerAtEach(t *testing.T) {
	few := []byte{0, 1, 2 + 4*20, 3 + 4*20}
	if testing.Short() {
		few = few[1:]
	}
	for _, k := range []made{key("one", 1, 1, 1), key("one", 2, 1, 2), key("two", 3, 1, 1, 1), key("all", maxBatch, 1, 2)} {
		t.Run(k.name, func(t *testing.T) {
			t.Parallel()
			saves := int((k.total()+k.batch-1)/k.batch) + 1
			for at := 1; at <= 5*saves; at++ {
				rows.Every((at-1)%5, few, func(choices []byte) {
					g := keeperOf(t, 1)
					g.Plan(api.Plan{Stop: at})
					g.make(k)
					g.signAll(k.name)
					g.Up(choices, api.Plan{})
					g.lost()
					if g.make(k) == api.Exists && !g.all[k.name].sure {
						t.Errorf("P22.4: the name of a key that isn't there exists")
					}
					if e := g.signAll(k.name); e != api.Exhausted {
						t.Errorf("P22.4: at the end %v", e)
					}
				})
			}
		})
	}
}

// P22.4: the same by more choices, torn at the edges of a record's parts, of the two writes that make the record whole.
func TestPowerTorn(t *testing.T) {
	slow(t)
	k := key("key", 2, 1, 2)
	for _, at := range []int{3, 8, 13} {
		rows.Every(2, rows.Choices(), func(choices []byte) {
			g := keeperOf(t, 1)
			g.Plan(api.Plan{Stop: at})
			g.make(k)
			g.signAll("key")
			g.Up(choices, api.Plan{})
			g.lost()
			g.make(k)
			g.signAll("key")
		})
	}
}

// P22.4: the power lost again and again, at each number of the disk's in turn, by a few choices for each; opened anew each time, till no number is left. Two keys sign in turn.
func TestPowerAgainAndAgain(t *testing.T) {
	slow(t)
	a, b := key("a", 1, 1, 2), key("b", 3, 1, 1, 1)
	rows.Every(3, []byte{0, 1, 3 + 4*12}, func(choices []byte) {
		for at := 1; at <= 13; at++ {
			g := keeperOf(t, 2)
			for _, c := range choices {
				g.Plan(api.Plan{Stop: at})
				g.make(b)
				g.make(a)
				for g.sign("a") == api.OK || g.sign("b") == api.OK {
				}
				g.Up([]byte{c, choices[0], 1}, api.Plan{})
				g.lost()
			}
			g.make(a)
			g.make(b)
			if e, f := g.signAll("a"), g.signAll("b"); e != api.Exhausted || f != api.Exhausted {
				t.Errorf("P22.4: at the end %v, %v", e, f)
			}
		}
	})
}

// P22.4: the power lost where nothing is pending, behind each signature: what is reserved, and wasn't given out, is skipped.
func TestPowerBehindEach(t *testing.T) {
	for _, batch := range []uint64{1, 2, 3, 5, 8} {
		for each := 1; each <= 5; each++ {
			g := keeperOf(t, 1)
			g.make(key("key", batch, 1, 4))
			for e := api.OK; e == api.OK; {
				for i := 0; i < each && e == api.OK; i++ {
					e = g.sign("key")
				}
				was, _ := g.State("key")
				g.Up(nil, api.Plan{})
				g.lost()
				if now, _ := g.State("key"); now.Next != was.Reserved {
					t.Errorf("P22.4: the next is %v, with %v reserved", now.Next, was.Reserved)
				}
			}
		}
	}
}

// P22.4: two keys of one store don't disturb each other: where the one's save is cut, at each number and by each kind of choice, or fails, or it is retired, or its area written over by hand, the other one's state, public key and area stay.
func TestTwoKeys(t *testing.T) {
	a, b := key("a", 2, 1, 2), key("b", 1, 1, 1)
	for at := 1; at <= 5; at++ {
		for _, p := range []api.Plan{{Stop: at}, {Fail: []int{at}}} {
			rows.Every(min(at-1, 2), rows.Choices()[:8], func(choices []byte) {
				r := laid(t, a.area(), b.area())
				r.signs(b, 0, nil)
				r.Up(nil, p)
				was := slices.Concat(r.Sure()[whole : 2*whole]...)
				if sig, e := r.Sign("a", nil); e == api.OK || len(sig) > 0 {
					t.Errorf("P22.3: Sign that is cut: %v", e)
				}
				r.is("b", b.state(1, 1))
				r.Up(choices, api.Plan{})
				if got := slices.Concat(r.Sure()[whole : 2*whole]...); string(got) != string(was) {
					t.Errorf("P22.4: the area of b: %x, not %x", got, was)
				}
				r = r.anew()
				r.is("b", b.state(1, 1))
				r.tells(b)
				r.signs(b, 1, nil)
			})
		}
	}
	r := laid(t, a.area(), b.area())
	r.signs(b, 0, nil)
	r.retires("a", api.OK)
	r.is("b", b.state(1, 1))
	layOne(r.Disk, 0, rows.Junk(whole))
	r.signs(b, 1, nil)
	r.noSign("b", nil, api.Exhausted)
	r.tells(b)
}

// P22.4: what one key's failing save left pending becomes sure by the other one's; both sign on behind it, and behind a loss of power.
func TestPendingOfOther(t *testing.T) {
	for at := 1; at <= 5; at++ {
		g := keeperOf(t, 2)
		a, b := key("a", 2, 1, 3), key("b", 1, 1, 2)
		g.make(a)
		g.make(b)
		g.sign("a")
		g.sign("a")
		g.Plan(api.Plan{Fail: []int{15 + at}})
		if e := g.sign("a"); e != api.Failed {
			t.Fatalf("P22.3: Sign where %v fails: %v", at, e)
		}
		g.sign("b")
		g.Up(nil, api.Plan{})
		g.is("a", a.state(2, 2))
		if at%2 == 0 {
			g.rig = g.anew()
		}
		if e, f := g.signAll("a"), g.signAll("b"); e != api.Exhausted || f != api.Exhausted {
			t.Errorf("P22.4: at the end %v, %v", e, f)
		}
	}
}

// keys are those of the long scripts.
func keys() []made {
	return []made{key("a", 3, 1, 3), key("b", 1, 1, 2), key("c", 2, 1, 1, 1), key("d", 8, 1, 3), key("e", maxBatch, 3, 1)}
}

// P22.4: long scripts of makings, signatures, retirings, failures and losses of power, torn in all ways, opened anew behind each loss, of stores of one area up to six.
func TestPowerInLongScripts(t *testing.T) {
	t.Parallel()
	for start := range uint64(60) {
		m, list := mixed(100+start), keys()
		g := keeperOf(t, int(start)%6+1)
		for range 12 {
			for range m.IntN(20) {
				k := list[m.IntN(len(list))]
				switch m.IntN(16) {
				case 0, 1:
					g.make(k)
				case 2:
					if m.IntN(6) == 0 {
						g.retire(k.name)
					}
				default:
					g.sign(k.name)
				}
			}
			g.Up(rows.MixedRow(m, m.IntN(6)), rows.MixedPlan(m))
			g.lost()
		}
	}
}

// happen does one of the things that may happen at any time, but for an opening.
func (g *keeper) happen(m *rand.Rand, list []made) {
	g.Helper()
	k := list[m.IntN(len(list))]
	switch m.IntN(26) {
	case 0:
		g.Plan(rows.MixedPlan(m))
	case 1:
		g.Flush()
	case 2:
		if m.IntN(8) == 0 {
			g.Stop()
		}
	case 3, 4, 5:
		// One that vanished could sign with all numbers again, if it was made again: what makes one vanish is told below.
		if x := g.all[k.name]; x == nil || !x.sure {
			g.make(k)
		}
	case 6:
		if m.IntN(8) == 0 {
			g.retire(k.name)
		}
	default:
		g.sign(k.name)
	}
}

// P22.4: whatever happens: long scripts in which the store is used on behind a loss of power as it was, or opened anew then, or at any time at which nothing is pending: the keys the making of which returned are there, no two signatures of a key have one index, they rise, each fits.
func TestWhateverHappens(t *testing.T) {
	slow(t)
	for start := range uint64(150) {
		m, list := mixed(1000+start), keys()
		g := keeperOf(t, int(start)%6+1)
		for range 250 {
			switch m.IntN(24) {
			case 0:
				g.Up(rows.MixedRow(m, m.IntN(6)), rows.MixedPlan(m))
			case 1:
				g.Up(rows.MixedRow(m, m.IntN(6)), rows.MixedPlan(m))
				g.lost()
			case 2:
				if _, pending := g.Count(); pending > 0 || g.stopped() {
					continue
				}
				g.lost()
			default:
				g.happen(m, list)
			}
		}
	}
}

// stopped: whether the power is gone.
func (g *keeper) stopped() bool {
	_, e := g.Read(0)
	return e == api.Down
}

// P22.4: the same where the store is opened anew while something is pending, too. Then what alone is sure may be written over (20): a key may vanish, or its area become corrupt, if the power goes within that. No two signatures have one index all the same, they rise, each fits.
func TestOpenedWhilePending(t *testing.T) {
	t.Parallel()
	for start := range uint64(150) {
		m, list := mixed(5000+start), keys()
		g := keeperOf(t, int(start)%6+1)
		for there, i := true, 0; there && i < 250; i++ {
			switch m.IntN(24) {
			case 0:
				g.Up(rows.MixedRow(m, m.IntN(6)), rows.MixedPlan(m))
				there = g.opens()
			case 1, 2:
				there = g.opens()
			default:
				g.happen(m, list)
			}
		}
	}
}

// opens opens the store anew, if it can. Whether it could, or the power is gone.
func (g *keeper) opens() bool {
	g.Helper()
	s, e := store.Open(g.Disk)
	if e == api.OK {
		g.Store = s
	} else if e != api.Down && e != api.Corrupt || s != nil {
		g.Fatalf("P22.2: Open: %v", e)
	}
	return e != api.Corrupt
}
