package store_test

import (
	"slices"
	"testing"

	"tearoff/api"
	"tearoff/rows"
)

// P22.3: Public: the public key that layer 13 tells, whatever became of the key: made, used, exhausted, retired, opened anew, and while the disk is down; nothing hangs on the number, and nothing is done to the disk.
func TestPublic(t *testing.T) {
	for _, k := range []made{key("a", 1, 0, 1), key("b", 3, 1, 3), key("c", 2, 2, 2, 1), key("d", maxBatch, 3, 1, 1, 1), {"e", []api.Pair{rows.Pair(1, 8, 1)}, rows.Seed(24, 9), 1}} {
		r := laid(t, free(), key("other", 1, 1, 2).area())
		r.creates(k, api.OK)
		for n := range min(k.total(), 3) {
			r.stays(func() { r.tells(k) })
			r.signs(k, n, nil)
		}
		r.anew().tells(k)
		r.retires(k.name, api.OK)
		r.stays(func() { r.tells(k) })
		r.tells(key("other", 1, 1, 2))
		r.anew().tells(k)
		r.Stop()
		r.stays(func() { r.tells(k) })
	}
}

// P22.3: State: the counter's, behind each number, behind a code, retired, opened anew, and while the disk is down.
func TestState(t *testing.T) {
	k := key("key", 3, 1, 3)
	r := laid(t, free())
	r.creates(k, api.OK)
	for n, reserved := range []uint64{0, 3, 3, 3, 6, 6, 6, 8, 8} {
		r.is("key", k.state(reserved, uint64(n)))
		r.Stop()
		r.is("key", k.state(reserved, uint64(n)))
		r.Up(nil, api.Plan{})
		r.anew().is("key", k.state(reserved, reserved))
		if n < 8 {
			r.signs(k, uint64(n), nil)
		}
	}
	r.noSign("key", nil, api.Exhausted)
	r.is("key", k.state(8, 8))
	r.retires("key", api.OK)
	x := k.state(8, 8)
	x.Retired = true
	r.is("key", x)
	r.anew().is("key", x)
}

// P22.3: Retire: it is saved so, byte by byte, as the next record, and signs no more, opened anew neither; once more nothing is saved. At any number, and when none is left.
func TestRetire(t *testing.T) {
	for used := range uint64(9) {
		x := tracked(t, key("key", 3, 1, 3))
		for range used {
			x.sign()
		}
		x.places[x.number%2] = record(x.number+1, x.k.retired(x.reserved))
		for range 3 {
			x.retires("key", api.OK)
			x.counts(5*x.saves+5, 0)
			x.sureOf(x.places[0], x.places[1])
			x.stays(func() { x.noSign("key", nil, api.Retired) })
		}
		q := x.anew()
		q.noSign("key", nil, api.Retired)
		q.stays(func() { q.retires("key", api.OK) })
		q.Stop()
		q.stays(func() { q.retires("key", api.OK) })
	}
}

// P22.3: Retire of which a write, or the flush, fails, or at which the power goes: Failed, or Down, and it isn't retired: it signs on. Done again it is.
func TestRetireFails(t *testing.T) {
	for at := 1; at <= 5; at++ {
		for want, p := range map[api.Code]api.Plan{api.Failed: {Fail: []int{at}}, api.Down: {Stop: at}} {
			x := tracked(t, key("key", 2, 1, 2))
			x.sign()
			x.Up(nil, p)
			x.retires("key", want)
			x.counts(at, at-1)
			x.sureOf(x.places[0], x.places[1])
			x.Up(nil, api.Plan{})
			x.saves = 0
			x.sign()
			x.sign()
			x.retires("key", api.OK)
			x.noSign("key", nil, api.Retired)
			x.anew().noSign("key", nil, api.Retired)
		}
	}
	r := laid(t, key("key", 2, 1, 2).area())
	r.Stop()
	r.stays(func() { r.retires("key", api.Down) })
}

// P22.3: Names: of no key, of one, and so on up to eight, made in any order, rising by their bytes; and opened anew.
func TestNamesRise(t *testing.T) {
	rising := []string{"", "\x00", "\x00\x00", "\x00a", "0", "A", "Z", "a", "a\x00", "a\x00b", "aa", "aaaaaaaaaaaaaaaa", "ab", "b", "\x7f", "\x80", "\xc3\xa9", "\xff", "\xff\x00", "\xff\xff"}[1:]
	m := mixed(2)
	for range 60 {
		r := laid(t, slices.Repeat([][]byte{free()}, 8)...)
		var want []string
		r.has()
		for _, i := range m.Perm(len(rising))[:8] {
			r.creates(key(rising[i], 1, 1, 1), api.OK)
			want = append(want, rising[i])
			slices.SortFunc(want, func(a, b string) int { return slices.Index(rising, a) - slices.Index(rising, b) })
			r.has(want...)
			r.anew().has(want...)
		}
		r.creates(key("more", 1, 1, 1), api.Full)
		r.has(want...)
		r.Stop()
		r.has(want...)
	}
}

// P22.3: Names: the same in whichever areas the keys lie, and with what is retired, or exhausted, among them.
func TestNamesOfAreas(t *testing.T) {
	m, list := mixed(3), []string{"d", "c", "b", "a", "e"}
	for range 20 {
		m.Shuffle(len(list), func(i, j int) { list[i], list[j] = list[j], list[i] })
		var areas [][]byte
		for i, name := range list {
			k := key(name, 1, 1, 1)
			areas = append(areas, [][]byte{k.area(), slices.Concat(record(1, k.retired(1)), blank()), slices.Concat(record(1, k.bytes(2)), junk())}[i%3], free())
		}
		laid(t, areas[:8]...).has(slices.Sorted(slices.Values(list[:4]))...)
	}
}
