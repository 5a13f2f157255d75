package hss_test

import (
	"bytes"
	"encoding/binary"
	"math"
	"slices"
	"strconv"
	"testing"

	"tearoff/api"
	"tearoff/hss"
	"tearoff/rows"
)

// sumCount is how many sorts of sums there are.
const sumCount = rows.SumCount

// pair and of: a pair, and levels, of a sort of sums; tall: levels that are as high as may be; over and noLevels: such as may not be.
var pair, of, tall, over, noLevels = rows.Pair, rows.Levels, rows.TallLevels, rows.OverLevels, rows.NoLevels

// height, leaves: of a pair's tree; size: how many bytes the sums of levels have; high: how high all trees are together.
var height, size, high = rows.HeightOf, rows.SizeOf, rows.High

func leaves(p api.Pair) uint64 { return 1 << height(p) }

// name: what a test of levels is called.
func name(l []api.Pair) string {
	out := ""
	for _, p := range l {
		out += " " + strconv.FormatUint(uint64(p.Ots), 10) + "/" + strconv.FormatUint(uint64(p.Tree), 16)
	}
	return out[1:]
}

// each runs a test for each of these levels, beside each other.
func each(t *testing.T, list [][]api.Pair, do func(t *testing.T, l []api.Pair)) {
	t.Helper()
	for _, l := range list {
		t.Run(name(l), func(t *testing.T) {
			t.Parallel()
			do(t, l)
		})
	}
}

// few: levels of one pair, of two and of three, of all kinds, sizes and widths, that are made soon.
func few() [][]api.Pair {
	return [][]api.Pair{
		{pair(0, 8, 1)}, {pair(1, 4, 3)}, {pair(2, 2, 2)}, {pair(3, 1, 1)},
		of(0, 2, 1), of(1, 1, 2), of(2, 1, 1), of(3, 1, 3),
		{pair(1, 8, 1), pair(1, 1, 2)}, {pair(3, 1, 1), pair(3, 8, 1)},
		of(0, 1, 1, 1), of(1, 2, 1, 1), of(2, 1, 1, 1), of(3, 1, 2, 1),
		{pair(1, 4, 1), pair(1, 4, 1), pair(1, 4, 1)},
	}
}

// P13.1: the chapter's example: two levels of heights 1 and 2: eight; the index 5 has the places 1, 1.
func TestExample(t *testing.T) {
	for sort := range sumCount {
		l := of(sort, 1, 2)
		if !hss.May(l) || hss.Total(l) != 8 {
			t.Errorf("P13.1: May(%v): %v, Total: %v", name(l), hss.May(l), hss.Total(l))
		}
		if got, e := hss.Places(l, 5); e != api.OK || !slices.Equal(got, []uint32{1, 1}) {
			t.Errorf("P13.1: Places(%v, 5): %v, %v", name(l), got, e)
		}
	}
}

// P13.1: every pair that may be is a level that may be by itself, and signs as often as its tree has leaves.
func TestOnePair(t *testing.T) {
	for _, p := range rows.Pairs() {
		l := []api.Pair{p}
		if !hss.May(l) || hss.Total(l) != leaves(p) {
			t.Errorf("P13.1: May(%v): %v, Total: %v", name(l), hss.May(l), hss.Total(l))
		}
	}
}

// P13.1: every two pairs may be levels, if they have one kind and one size; and then sign as often as both trees have leaves.
func TestEveryTwo(t *testing.T) {
	for _, p := range rows.Pairs() {
		for _, q := range rows.Pairs() {
			a, _ := rows.SetsOf(p)
			b, _ := rows.SetsOf(q)
			may, total := a.Kind == b.Kind && a.N == b.N, uint64(0)
			if may {
				total = leaves(p) * leaves(q)
			}
			if l := []api.Pair{p, q}; hss.May(l) != may || hss.Total(l) != total {
				t.Errorf("P13.1: May(%v): %v, Total: %v, not %v, %v", name(l), hss.May(l), hss.Total(l), may, total)
			}
		}
	}
}

// P13.1: levels of three pairs, of all heights: up to 60 together, and no more.
func TestEveryThree(t *testing.T) {
	heights := []int{1, 2, 3, 4, 5, 10, 15, 20, 25}
	for _, a := range heights {
		for _, b := range heights {
			for _, c := range heights {
				l, total := of((a+b+c)%sumCount, a, b, c), uint64(0)
				if a+b+c <= 60 {
					total = 1 << (a + b + c)
				}
				if hss.May(l) != (total > 0) || hss.Total(l) != total {
					t.Errorf("P13.1: May(%v): %v, Total: %v, not %v", name(l), hss.May(l), hss.Total(l), total)
				}
			}
		}
	}
}

// P13.1: levels of up to eight pairs, and of heights of up to 60 together.
func TestMay(t *testing.T) {
	for sort := range sumCount {
		for n := 1; n <= 8; n++ {
			l := slices.Repeat([]api.Pair{pair(sort, 8, 1)}, n)
			if !hss.May(l) || hss.Total(l) != 1<<n {
				t.Errorf("P13.1: May(%v): %v, Total: %v", name(l), hss.May(l), hss.Total(l))
			}
		}
		for _, l := range tall(sort) {
			if !hss.May(l) || hss.Total(l) != 1<<high(l) {
				t.Errorf("P13.1: May(%v): %v, Total: %v", name(l), hss.May(l), hss.Total(l))
			}
		}
		for _, l := range tall(sort)[2:] {
			if high(l) != 60 {
				t.Fatalf("%v: heights of %v together", name(l), high(l))
			}
		}
		if got := hss.Total(of(sort, 25, 25, 10)); got != 1152921504606846976 {
			t.Errorf("P13.1: Total of heights of 60: %v", got)
		}
	}
}

// P13.1: levels that may not be, and sign never: none, nine and more, higher than 60 together, of unlike kinds or sizes at any place, of a pair that may not be at any place.
func TestMayNot(t *testing.T) {
	list := noLevels()
	if len(list) < 2000 {
		t.Fatalf("%v levels that may not be", len(list))
	}
	for sort := range sumCount {
		for _, l := range over(sort) {
			if high(l) <= 60 || len(l) > 8 {
				t.Fatalf("%v: heights of %v together", name(l), high(l))
			}
		}
	}
	for _, l := range list {
		if hss.May(l) || hss.Total(l) != 0 {
			t.Errorf("P13.1: May(%+v): %v, Total: %v", l, hss.May(l), hss.Total(l))
		}
	}
}

// expectPlaces tells where an index hasn't these places.
func expectPlaces(t *testing.T, l []api.Pair, n uint64, want ...uint32) {
	t.Helper()
	if got, e := hss.Places(l, n); e != api.OK || !slices.Equal(got, want) {
		t.Errorf("P13.1: Places(%v, %v): %v, %v, not %v", name(l), n, got, e, want)
	}
}

// noPlaces tells where Places doesn't answer this code, and nothing beside it.
func noPlaces(t *testing.T, l []api.Pair, n uint64, want api.Code) {
	t.Helper()
	if got, e := hss.Places(l, n); e != want || len(got) != 0 {
		t.Errorf("P13.1: Places(%+v, %v): %v, %v, not %v", l, n, got, e, want)
	}
}

// next counts places on by one, the lowest level's first; false, if they were the last ones.
func next(l []api.Pair, places []uint32) bool {
	for i := len(l) - 1; i >= 0; i-- {
		places[i]++
		if uint64(places[i]) < leaves(l[i]) {
			return true
		}
		places[i] = 0
	}
	return false
}

// P13.1, P13.4: the places of every index, counted through, so that no two are alike; and none of the first that there isn't.
func TestEveryPlace(t *testing.T) {
	list := append(few(), of(0, 4, 3, 2, 1), of(1, 1, 2, 3, 4), of(2, 1, 1, 1, 1, 1, 1, 1, 1), of(3, 5, 1, 5), of(0, 10), of(1, 10, 1), of(2, 1, 10), of(3, 2, 1, 2, 1, 2, 1, 2, 1), of(0, 15))
	for _, l := range list {
		places, n := make([]uint32, len(l)), uint64(0)
		for more := true; more; more = next(l, places) {
			expectPlaces(t, l, n, places...)
			n++
		}
		if n != hss.Total(l) {
			t.Errorf("P13.1: Total(%v): %v, not %v", name(l), hss.Total(l), n)
		}
		noPlaces(t, l, n, api.Exhausted)
	}
}

// P13.1: places of high trees: the first and the last index, and some between them, put together from places.
func TestFarPlaces(t *testing.T) {
	for sort := range sumCount {
		for i, l := range append(tall(sort), of(sort, 25, 25, 10)) {
			first, last := make([]uint32, len(l)), make([]uint32, len(l))
			for at := range l {
				last[at] = uint32(leaves(l[at]) - 1)
			}
			expectPlaces(t, l, 0, first...)
			expectPlaces(t, l, hss.Total(l)-1, last...)
			for k := range 200 {
				b := rows.Mixed(4*len(l), byte(i+k))
				var places []uint32
				n := uint64(0)
				for at := range l {
					places = append(places, binary.BigEndian.Uint32(b[4*at:])%uint32(leaves(l[at])))
					n = n*leaves(l[at]) + uint64(places[at])
				}
				expectPlaces(t, l, n, places...)
			}
		}
	}
	expectPlaces(t, of(0, 25, 25, 10), 1<<35, 1, 0, 0)
	expectPlaces(t, of(0, 25, 25, 10), 1<<35-1, 0, 1<<25-1, 1023)
	expectPlaces(t, of(0, 25, 25, 10), 1024, 0, 1, 0)
	expectPlaces(t, of(0, 10, 25, 25), 1<<50, 1, 0, 0)
	expectPlaces(t, of(0, 10, 25, 25), 1<<50+1<<25+1, 1, 1, 1)
	expectPlaces(t, of(0, 5, 10), 32, 0, 32)
	expectPlaces(t, of(0, 5, 10), 1024, 1, 0)
	expectPlaces(t, of(0, 10, 5), 32, 1, 0)
}

// P13.1: indices that there aren't: the first one, and far above.
func TestNoPlaces(t *testing.T) {
	for sort := range sumCount {
		for _, l := range append(tall(sort), of(sort, 1), of(sort, 1, 1), of(sort, 2, 1, 3), of(sort, 1, 1, 1, 1, 1, 1, 1, 1), of(sort, 25, 25, 4)) {
			total := hss.Total(l)
			for _, n := range []uint64{total, total + 1, 2*total - 1, 2 * total, 3 * total, 1 << 60, 1<<60 + 1, 1 << 61, 1 << 62, 1 << 63, 1<<63 + total - 1, -total, math.MaxUint64 - 1, math.MaxUint64} {
				noPlaces(t, l, n, api.Exhausted)
			}
		}
	}
}

// P13.1: no places of levels that may not be, whatever the index is: Unknown.
func TestPlacesUnknown(t *testing.T) {
	for _, l := range noLevels() {
		for _, n := range []uint64{0, 1, 2, 1 << 60, math.MaxUint64} {
			noPlaces(t, l, n, api.Unknown)
		}
	}
}

// P13.1: what is handed in isn't changed, its spare room neither, and what is answered is new each time.
func TestLevelsStay(t *testing.T) {
	for _, l := range append(few(), of(0, 25, 25, 10), of(0, 25, 25, 10, 1), slices.Repeat(of(1, 1), 9), []api.Pair{{Ots: 7, Tree: 5}}, nil) {
		room := append(slices.Clone(l), pair(0, 1, 1), api.Pair{Ots: 99, Tree: 99})
		was := slices.Clone(room)
		in := room[:len(l)]
		text := []byte("a text")
		places, _ := hss.Places(in, 1)
		again, _ := hss.Places(in, 1)
		want := slices.Clone(places)
		full := again[:cap(again)]
		for i := range full {
			full[i] = 99
		}
		if !slices.Equal(places, want) {
			t.Errorf("P13.1: Places(%v), beside an answer that was written over: %v, not %v", l, places, want)
		}
		hss.May(in)
		hss.Total(in)
		for _, n := range []int{24, 32} {
			hss.Public(in, rows.Seed(n, 60))
			hss.Sign(in, rows.Seed(n, 60), 0, text)
			hss.Sign(in, rows.Seed(n, 60), math.MaxUint64, text)
		}
		if !slices.Equal(room, was) {
			t.Errorf("P13: levels that were %v are %v", was, room)
		}
		clear(in)
		if got, _ := hss.Places(l, 1); !slices.Equal(got, want) || !slices.Equal(places, want) {
			t.Errorf("P13.1: Places(%v), behind levels that were written over: %v, %v, not %v", l, got, places, want)
		}
	}
}

// expect tells where bytes aren't those that they must be.
func expect(t *testing.T, got, want []byte, what ...any) {
	t.Helper()
	if len(want) == 0 || !bytes.Equal(got, want) {
		t.Errorf("%v: %v bytes, %x, not %v, %x", what, len(got), got, len(want), want)
	}
}
