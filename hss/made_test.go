package hss_test

import (
	"encoding/binary"
	"encoding/hex"
	"math"
	"slices"
	"testing"

	"tearoff/api"
	"tearoff/hss"
	"tearoff/lms"
	"tearoff/rows"
)

// number: a number as 4 bytes.
func number(v int) []byte { return binary.BigEndian.AppendUint32(nil, uint32(v)) }

// bytesOf: what a call of layer 12 answered, which must be OK.
func bytesOf(t *testing.T, b []byte, e api.Code) []byte {
	t.Helper()
	if e != api.OK || len(b) == 0 {
		t.Fatalf("layer 12: %v, %x", e, b)
	}
	return b
}

// publicByHand: the public key, put together by hand from layer 12.
func publicByHand(t *testing.T, l []api.Pair, s api.Seed) []byte {
	t.Helper()
	top, e := lms.Public(l[0], s)
	return append(number(len(l)), bytesOf(t, top, e)...)
}

// placesByHand: the places of an index, read off its bits.
func placesByHand(l []api.Pair, n uint64) []uint32 {
	out := make([]uint32, len(l))
	for i, p := range slices.Backward(l) {
		out[i] = uint32(n & (leaves(p) - 1))
		n >>= height(p)
	}
	return out
}

// levelsByHand: the seeds, the public keys and the signatures of an index, level by level, the top one first, put together by hand from layers 10 and 12.
func levelsByHand(t *testing.T, l []api.Pair, s api.Seed, n uint64, text []byte) (seeds []api.Seed, publics, sigs [][]byte) {
	t.Helper()
	places := placesByHand(l, n)
	for i, p := range l {
		public, e := lms.Public(p, s)
		seeds, publics = append(seeds, s), append(publics, bytesOf(t, public, e))
		s = belowByHand(p, s, places[i])
	}
	for i, p := range l {
		signs := text
		if i+1 < len(l) {
			signs = publics[i+1]
		}
		sig, e := lms.Sign(p, seeds[i], places[i], signs)
		sigs = append(sigs, bytesOf(t, sig, e))
	}
	return seeds, publics, sigs
}

// laid: a signature, laid out from the public keys and the signatures of its levels.
func laid(publics, sigs [][]byte) []byte {
	out := number(len(sigs) - 1)
	for i, sig := range sigs {
		if i > 0 {
			out = append(out, publics[i]...)
		}
		out = append(out, sig...)
	}
	return out
}

// signedByHand: the signature of a text at an index, put together by hand.
func signedByHand(t *testing.T, l []api.Pair, s api.Seed, n uint64, text []byte) []byte {
	t.Helper()
	_, publics, sigs := levelsByHand(t, l, s, n, text)
	return laid(publics, sigs)
}

// public: the public key of levels and a seed that can be made.
func public(t *testing.T, l []api.Pair, s api.Seed) []byte {
	t.Helper()
	got, e := hss.Public(l, s)
	if e != api.OK || len(got) != 28+size(l) {
		t.Fatalf("P13.2: Public(%v): %v, %x", name(l), e, got)
	}
	return got
}

// sign: a signature that can be made.
func sign(t *testing.T, l []api.Pair, s api.Seed, n uint64, text []byte) []byte {
	t.Helper()
	got, e := hss.Sign(l, s, n, text)
	if e != api.OK {
		t.Fatalf("P13.2: Sign(%v), index %v: %v, %x", name(l), n, e, got)
	}
	return got
}

// noPublic tells where Public doesn't answer this code, and nothing beside it.
func noPublic(t *testing.T, l []api.Pair, s api.Seed, want api.Code, what ...any) {
	t.Helper()
	if got, e := hss.Public(l, s); e != want || len(got) != 0 {
		t.Errorf("P13.2: Public(%+v), %v, bytes of name and secret %v, %v: %v, %x, not %v", l, what, len(s.Name), len(s.Secret), e, got, want)
	}
}

// noSign tells where Sign doesn't answer this code, and nothing beside it.
func noSign(t *testing.T, l []api.Pair, s api.Seed, n uint64, text []byte, want api.Code, what ...any) {
	t.Helper()
	if got, e := hss.Sign(l, s, n, text); e != want || len(got) != 0 {
		t.Errorf("P13.2: Sign(%+v), %v, index %v, bytes of text, name and secret %v, %v, %v: %v, %x, not %v", l, what, n, len(text), len(s.Name), len(s.Secret), e, got, want)
	}
}

// fits tells where a signature doesn't fit.
func fits(t *testing.T, public, text, sig []byte, what ...any) {
	t.Helper()
	if !hss.Fits(public, text, sig) {
		t.Errorf("P13.4: not Fits, %v", what)
	}
}

// names tells where a signature doesn't name these places.
func names(t *testing.T, public, sig []byte, want []uint32, what ...any) {
	t.Helper()
	if got, e := hss.Read(public, sig); e != api.OK || !slices.Equal(got, want) {
		t.Errorf("P13.3: Read, %v: %v, %v, not %v", what, e, got, want)
	}
}

// expectMade tells where the public key of a seed, or the signatures at these indices, aren't as put together by hand, or don't fit, or name other places.
func expectMade(t *testing.T, l []api.Pair, s api.Seed, indices []uint64, text []byte, what ...any) {
	t.Helper()
	pub := public(t, l, s)
	expect(t, pub, publicByHand(t, l, s), "P13.2: Public", what, name(l))
	for _, n := range indices {
		sig := sign(t, l, s, n, text)
		expect(t, sig, signedByHand(t, l, s, n, text), "P13.2: Sign", what, name(l), n)
		fits(t, pub, text, sig, what, name(l), n)
		names(t, pub, sig, placesByHand(l, n), what, name(l), n)
	}
}

// all: every index of levels.
func all(l []api.Pair) []uint64 {
	var out []uint64
	for n := range hss.Total(l) {
		out = append(out, n)
	}
	return out
}

// ends: the first and the last indices of levels, and those in the middle.
func ends(l []api.Pair) []uint64 {
	n := hss.Total(l)
	return slices.Compact([]uint64{0, n/2 - 1, n / 2, n - 1})
}

// P13.2, P13.4: public keys and signatures of one, two and three levels, of all kinds, sizes and widths, at every index.
func TestMade(t *testing.T) {
	each(t, few(), func(t *testing.T, l []api.Pair) {
		expectMade(t, l, rows.Seed(size(l), 1), all(l), []byte("a text"), "few")
	})
}

// P13.2, P13.4: those of more levels, up to eight, of eight at every index once, and of higher trees.
func TestMadeOfMore(t *testing.T) {
	list := [][]api.Pair{
		of(0, 1, 1, 1, 1), of(1, 1, 1, 1, 1, 1), of(2, 1, 1, 1, 1, 1, 1), of(3, 1, 1, 1, 1, 1, 1, 1),
		of(1, 2, 1, 1, 1, 3, 1, 1, 1), of(3, 1, 1, 1, 1, 1, 1, 1, 1),
		of(0, 5), of(1, 5, 2), of(2, 1, 5), of(3, 4, 4), of(1, 3, 3, 3),
	}
	each(t, list, func(t *testing.T, l []api.Pair) {
		expectMade(t, l, rows.Seed(size(l), 2), append(ends(l), hss.Total(l)/3), []byte("another text"), "more")
	})
	eight := slices.Repeat([]api.Pair{pair(1, 2, 1)}, 8)
	s := rows.Seed(24, 3)
	indices := all(eight)
	if testing.Short() {
		indices = ends(eight)
	}
	for _, n := range indices {
		expect(t, sign(t, eight, s, n, nil), signedByHand(t, eight, s, n, nil), "P13.2: Sign of eight levels", n)
	}
}

// P13.2: seeds of noughts, of ones, and with spare room.
func TestSeeds(t *testing.T) {
	for sort := range sumCount {
		l := of(sort, 1, 1)
		for i, s := range rows.Seeds(size(l)) {
			expectMade(t, l, s, all(l), []byte("a text"), "seed", i)
		}
	}
}

// P13.2: how many bytes a public key and a signature have, and that the key hangs on the first level, and on how many there are, alone.
func TestSizes(t *testing.T) {
	each(t, few(), func(t *testing.T, l []api.Pair) {
		s := rows.Seed(size(l), 4)
		want := 4
		for i, p := range l {
			n, m := lms.Sizes(p)
			want += m
			if i > 0 {
				want += n
			}
		}
		if got := sign(t, l, s, 0, nil); len(got) != want {
			t.Errorf("P13.2: Sign(%v): %v bytes, not %v", name(l), len(got), want)
		}
		other := slices.Repeat(l[:1], len(l))
		expect(t, public(t, other, s), public(t, l, s), "P13.2: Public, other levels below", name(l))
	})
}

// unhex: bytes that are written out.
func unhex(t *testing.T, text string) []byte {
	t.Helper()
	b, err := hex.DecodeString(text)
	if err != nil {
		t.Fatal(err)
	}
	return b
}

// P13.1, P13.2: two levels that others published: the seed below the place 3, the public key, and of the signature at the places 3 and 4 what each of its parts begins with.
func TestPublished(t *testing.T) {
	l := []api.Pair{{Ots: 3, Tree: 6}, {Ots: 4, Tree: 5}}
	top := unhex(t, "0000000600000003"+"d08fabd4a2091ff0a8cb4ed834e74534"+"32a58885cd9ba0431235466bff9651c6c92124404d45fa53cf161c28f1ad5a8e")
	low := unhex(t, "0000000500000004"+"215f83b7ccb9acbcd08db97b0d04dc2b"+"a1cd035833e0e90059603f26e07ad2aad152338e7a5e5984bcd5f7bb4eba40b7")
	topSig := unhex(t, "0000000300000003"+"3d46bee8660f8f215d3f96408a7a64cf1c4da02b63a55f62c666ef5707a914ce"+"0674e8cb7a55f0c48d484f31f3aa4af9719a74f22cf823b94431d01c926e2a76")
	lowSig := unhex(t, "0000000400000004"+"0eb1ed54a2460d512388cad533138d240534e97b1e82d33bd927d201dfc24ebb"+"11b3649023696f85150b189e50c00e98850ac343a77b3638319c347d7310269d")
	text := []byte("The enumeration in the Constitution, of certain rights, shall not be construed to deny or disparage others retained by the people.\n")

	s := api.Seed{Name: top[8:24], Secret: unhex(t, "558b8966c48ae9cb898b423c83443aae014a72f1b1ab5cc85cf1d892903b5439")}
	next := below(t, l[0], s, 3)
	expect(t, next.Name, low[8:24], "P13.1: Below, published, the name")
	expect(t, next.Secret, unhex(t, "a1c4696e2608035a886100d05cd99945eb3370731884a8235e2fb3d4d71f2547"), "P13.1: Below, published, the secret")
	pub := public(t, l, s)
	expect(t, pub, append(number(2), top...), "P13.2: Public, published")
	sig := sign(t, l, s, 3*32+4, text)
	expect(t, sig[:76], append(number(1), topSig...), "P13.2: Sign, published, the top level's")
	at := 4 + 8 + 2180 + 320
	expect(t, sig[at:at+56], low, "P13.2: Sign, published, the key of the level below")
	expect(t, sig[at+56:at+56+72], lowSig, "P13.2: Sign, published, the lowest level's")
	fits(t, pub, text, sig, "published")
	names(t, pub, sig, []uint32{3, 4}, "published")
}

// P13.2: nothing of levels that may not be, whatever the seed, the index and the text are: Unknown.
func TestUnknown(t *testing.T) {
	long := make([]byte, api.MaxText+1)
	for _, l := range noLevels() {
		for _, s := range []api.Seed{rows.Seed(24, 5), rows.Seed(32, 5), {}} {
			noPublic(t, l, s, api.Unknown)
			noSign(t, l, s, 0, []byte("a text"), api.Unknown)
			noSign(t, l, s, math.MaxUint64, long, api.Unknown)
		}
	}
}

// P13.2: nothing of levels that may be, but can't be made, since one tree is higher than 10, at the top, below, or in all of them: Arg.
func TestTooHigh(t *testing.T) {
	for sort := range sumCount {
		list := [][]api.Pair{of(sort, 15), of(sort, 20), of(sort, 25), of(sort, 15, 15), of(sort, 25, 25, 10), of(sort, 15, 15, 15, 15)}
		for n := 2; n <= 8; n++ {
			for at := range n {
				for _, h := range []int{15, 20, 25} {
					l := slices.Repeat([]api.Pair{pair(sort, 2, 1)}, n)
					l[at] = pair(sort, 2, h)
					list = append(list, l)
				}
			}
		}
		for _, l := range list {
			if !hss.May(l) {
				t.Errorf("P13.1: not May(%v)", name(l))
			}
			s, bad := rows.Seed(size(l), 6), api.Seed{Name: rows.Mixed(15, 6), Secret: rows.Mixed(size(l), 6)}
			noPublic(t, l, s, api.Arg, "too high")
			noPublic(t, l, bad, api.Arg, "too high, no seed")
			total := hss.Total(l)
			for _, n := range []uint64{0, total - 1, total, math.MaxUint64} {
				noSign(t, l, s, n, []byte("a text"), api.Arg, "too high")
				noSign(t, l, bad, n, make([]byte, api.MaxText+1), api.Arg, "too high, and all else")
			}
		}
	}
}

// P13.2: a tree of height 10, the highest that can be made, signs, at the top, and below. (With -short: at one index.)
func TestHighEnough(t *testing.T) {
	each(t, [][]api.Pair{{pair(1, 2, 10), pair(1, 2, 1)}, {pair(0, 1, 1), pair(0, 1, 10)}}, func(t *testing.T, l []api.Pair) {
		indices := []uint64{1027}
		if !testing.Short() {
			indices = append(indices, 0, 2047)
		}
		expectMade(t, l, rows.Seed(size(l), 7), indices, nil, "high enough")
	})
}

// P13.2: nothing of seeds that may not be of the first level, by their name, their secret, or both: Arg.
func TestNoSeeds(t *testing.T) {
	for sort := range sumCount {
		for _, l := range [][]api.Pair{of(sort, 1), of(sort, 2, 1), of(sort, 1, 1, 1), of(sort, 10, 10, 10)} {
			for _, s := range rows.NoSeeds(size(l)) {
				noPublic(t, l, s, api.Arg, "no seed")
				noSign(t, l, s, 0, nil, api.Arg, "no seed")
				noSign(t, l, s, hss.Total(l), []byte("a text"), api.Arg, "no seed, no index")
			}
		}
	}
}

// P13.2, P13.4: texts of many lengths, up to MaxText bytes; nothing of longer ones: Arg.
func TestTexts(t *testing.T) {
	long := rows.Mixed(2*api.MaxText, 8)
	each(t, [][]api.Pair{of(0, 1), of(1, 1, 1), of(2, 1, 1), of(3, 1, 1, 1)}, func(t *testing.T, l []api.Pair) {
		s, n := rows.Seed(size(l), 9), hss.Total(l)-1
		for _, k := range []int{0, 1, 55, 56, 64, 135, 136, 1000, api.MaxText - 1, api.MaxText} {
			expectMade(t, l, s, []uint64{n}, long[:k], "bytes of text", k)
		}
		expect(t, sign(t, l, s, n, nil), sign(t, l, s, n, []byte{}), "P13.2: Sign, no text", name(l))
		for _, k := range []int{api.MaxText + 1, api.MaxText + 2, 2 * api.MaxText} {
			noSign(t, l, s, n, long[:k], api.Arg, "a long text")
			noSign(t, l, s, n, slices.Clip(long[:k]), api.Arg, "a long text")
			noSign(t, l, s, n+1, long[:k], api.Arg, "a long text, no index")
			noSign(t, l, s, math.MaxUint64, long[:k], api.Arg, "a long text, no index")
		}
	})
}

// P13.2: nothing of indices that there aren't, from the first beyond the last one on: Exhausted.
func TestNoIndex(t *testing.T) {
	list := append(few(), of(0, 10, 10, 10, 10, 10, 10), of(1, 10, 10, 10, 10, 10, 5, 4, 1), of(2, 1, 1, 1, 1, 1, 1, 1, 1))
	for _, l := range list {
		s, total := rows.Seed(size(l), 10), hss.Total(l)
		for _, n := range []uint64{total, total + 1, 2*total - 1, 2 * total, 3 * total, 1 << 60, 1<<60 + total - 1, 1 << 61, 1 << 63, 1<<63 + total - 1, -total, math.MaxUint64 - 1, math.MaxUint64} {
			noSign(t, l, s, n, nil, api.Exhausted, "no index")
			noSign(t, l, s, n, make([]byte, api.MaxText), api.Exhausted, "no index")
		}
	}
}

// P13.2: where several codes apply, the answer is the one that the chapter names first.
func TestNamedFirst(t *testing.T) {
	text, long := []byte("a text"), make([]byte, api.MaxText+1)
	may, none, tall := of(1, 1, 1), append(of(1, 1), of(0, 1)...), of(1, 1, 15)
	good, bad := rows.Seed(24, 11), api.Seed{Name: rows.Mixed(17, 11), Secret: rows.Mixed(24, 11)}
	for _, c := range []struct {
		what string
		l    []api.Pair
		s    api.Seed
		n    uint64
		text []byte
		want api.Code
	}{
		{"the levels", none, good, 0, text, api.Unknown},
		{"the levels and the index", none, good, 4, text, api.Unknown},
		{"the levels and the text", none, good, 0, long, api.Unknown},
		{"the levels and the seed", none, bad, 0, text, api.Unknown},
		{"the levels, the seed, the index and the text", none, bad, 4, long, api.Unknown},
		{"a pair and a height", []api.Pair{pair(1, 2, 15), {Ots: 5, Tree: 5}}, bad, 0, text, api.Unknown},
		{"all heights together and a height", of(1, 25, 25, 25), bad, 0, text, api.Unknown},
		{"the height", tall, good, 0, text, api.Arg},
		{"the height and the index", tall, good, 1 << 16, text, api.Arg},
		{"the height, the seed, the index and the text", tall, bad, 1 << 16, long, api.Arg},
		{"the seed", may, bad, 0, text, api.Arg},
		{"the seed and the index", may, bad, 4, text, api.Arg},
		{"the text", may, good, 0, long, api.Arg},
		{"the text and the index", may, good, 4, long, api.Arg},
		{"the seed, the index and the text", may, bad, 4, long, api.Arg},
		{"the index", may, good, 4, text, api.Exhausted},
	} {
		noSign(t, c.l, c.s, c.n, c.text, c.want, c.what)
		if c.want == api.Unknown {
			noPublic(t, c.l, c.s, api.Unknown, c.what)
			noPlaces(t, c.l, c.n, api.Unknown)
		}
	}
	noPublic(t, tall, bad, api.Arg, "the height and the seed")
	noBelow(t, none[0], bad, 0, api.Arg)
	noBelow(t, api.Pair{Ots: 5, Tree: 5}, bad, 0, api.Unknown)
}

// P13.2: public keys hang on each byte of the seed, and signatures on each level's place.
func TestUnlike(t *testing.T) {
	for sort := range sumCount {
		l := of(sort, 1, 1)
		s := rows.Seed(size(l), 12)
		seen := map[string]bool{}
		add := func(what string, s api.Seed) {
			root := string(public(t, l, s)[28:])
			if seen[root] {
				t.Errorf("P13.2: Public(%v), %v: a root that was there", name(l), what)
			}
			seen[root] = true
		}
		add("as it is", s)
		for i := range s.Name {
			add("another name", api.Seed{Name: rows.Turned(s.Name, i), Secret: s.Secret})
		}
		for i := range s.Secret {
			add("another secret", api.Seed{Name: s.Name, Secret: rows.Turned(s.Secret, i)})
		}
	}
	for _, l := range few() {
		seen := map[string]bool{}
		for _, n := range all(l) {
			seen[string(sign(t, l, rows.Seed(size(l), 13), n, nil))] = true
		}
		if uint64(len(seen)) != hss.Total(l) {
			t.Errorf("P13.2: Sign(%v): %v unlike signatures at %v indices", name(l), len(seen), hss.Total(l))
		}
	}
}
