package lms_test

import (
	"bytes"
	"encoding/binary"
	"encoding/hex"
	"math"
	"slices"
	"strconv"
	"testing"

	"tearoff/api"
	"tearoff/lms"
	"tearoff/merkle"
	"tearoff/once"
	"tearoff/rows"
)

// family is a pair with its two sets.
type family struct {
	pair api.Pair
	o    api.Ots
	t    api.Tree
}

// families: all pairs that may be.
func families() []family {
	var out []family
	for _, p := range rows.Pairs() {
		o, s := rows.SetsOf(p)
		out = append(out, family{p, o, s})
	}
	return out
}

// some: the families of these, which must be there.
func some(pairs ...api.Pair) []family {
	var out []family
	for _, f := range families() {
		if slices.Contains(pairs, f.pair) {
			out = append(out, f)
		}
	}
	if len(out) != len(pairs) {
		panic("a pair that may not be")
	}
	return out
}

// high: the families whose tree's height lies between two.
func high(from, to int) []family {
	return slices.DeleteFunc(families(), func(f family) bool { return f.t.H < from || f.t.H > to })
}

// few: families of both kinds and sizes, of all widths, and of low heights.
func few() []family {
	return some(
		api.Pair{Ots: 3, Tree: 0xf0000001}, api.Pair{Ots: 2, Tree: 0xf0000003},
		api.Pair{Ots: 7, Tree: 0xf0000006}, api.Pair{Ots: 8, Tree: 0xf0000005},
		api.Pair{Ots: 11, Tree: 0xf000000a}, api.Pair{Ots: 9, Tree: 0xf0000009},
		api.Pair{Ots: 14, Tree: 0xf000000f}, api.Pair{Ots: 15, Tree: 0xf000000d},
	)
}

// leaves: how many the tree has.
func (f family) leaves() uint32 { return 1 << f.t.H }

// all: every leaf.
func (f family) all() []uint32 {
	var out []uint32
	for q := range f.leaves() {
		out = append(out, q)
	}
	return out
}

// edges: the first and the last leaves, and those in the middle.
func (f family) edges() []uint32 {
	n := f.leaves()
	return slices.Compact([]uint32{0, n/2 - 1, n / 2, n - 1})
}

// beyond: numbers that no leaf has: just beyond the last one, and far above.
func (f family) beyond() []uint32 {
	n := f.leaves()
	return []uint32{n, n + 1, 2*n - 1, 2 * n, 3 * n, 1 << 26, 1<<26 + n - 1, 1 << 31, 1<<31 + n - 1, -n, math.MaxUint32 - 1, math.MaxUint32}
}

// publicLen, sigLen: how many bytes a public key, and a signature, has.
func (f family) publicLen() int { return 24 + f.o.N }
func (f family) sigLen() int    { return 8 + 4 + f.o.N*(f.o.P+1) + f.o.N*f.t.H }

// public: a public key, laid out.
func (f family) public(name, root []byte) []byte {
	b := binary.BigEndian.AppendUint32(nil, f.t.Code)
	b = binary.BigEndian.AppendUint32(b, f.o.Code)
	return append(append(b, name...), root...)
}

// sig: a signature, laid out.
func (f family) sig(q uint32, first []byte, way [][]byte) []byte {
	b := append(binary.BigEndian.AppendUint32(nil, q), first...)
	b = binary.BigEndian.AppendUint32(b, f.t.Code)
	return append(b, bytes.Join(way, nil)...)
}

// hand is a seed and its keys, of which public keys and signatures are put together by hand from layers 10 and 11.
type hand struct {
	family
	s    api.Seed
	keys [][]byte
}

// byHand: the keys of a seed.
func byHand(f family, s api.Seed) hand {
	h := hand{family: f, s: s}
	for q := range f.leaves() {
		h.keys = append(h.keys, once.Key(f.o, s, q))
	}
	return h
}

// made: the public key of the seed.
func (h hand) made() []byte {
	return h.public(h.s.Name, merkle.Root(h.t, h.s.Name, h.keys))
}

// signed: the signature of a text at a leaf.
func (h hand) signed(q uint32, text []byte) []byte {
	return h.sig(q, once.Sign(h.o, h.s, q, text), merkle.Way(h.t, h.s.Name, h.keys, q))
}

// expect tells where bytes aren't those that they must be.
func expect(t *testing.T, got, want []byte, what ...any) {
	t.Helper()
	if len(want) == 0 || !bytes.Equal(got, want) {
		t.Errorf("%v: %v bytes, %x, not %v, %x", what, len(got), got, len(want), want)
	}
}

// public: the public key of a pair and a seed that can be made.
func public(t *testing.T, f family, s api.Seed) []byte {
	t.Helper()
	got, e := lms.Public(f.pair, s)
	if e != api.OK || len(got) != f.publicLen() {
		t.Fatalf("P12.1: Public(%+v): %v, %x", f.pair, e, got)
	}
	return got
}

// sign: a signature that can be made.
func sign(t *testing.T, f family, s api.Seed, q uint32, text []byte) []byte {
	t.Helper()
	got, e := lms.Sign(f.pair, s, q, text)
	if e != api.OK || len(got) != f.sigLen() {
		t.Fatalf("P12.1: Sign(%+v), leaf %v: %v, %x", f.pair, q, e, got)
	}
	return got
}

// noPublic tells where Public doesn't answer this code, and nothing beside it.
func noPublic(t *testing.T, p api.Pair, s api.Seed, want api.Code, what ...any) {
	t.Helper()
	if got, e := lms.Public(p, s); e != want || len(got) != 0 {
		t.Errorf("P12.1: Public(%+v), %v, bytes of name and secret %v, %v: %v, %x, not %v", p, what, len(s.Name), len(s.Secret), e, got, want)
	}
}

// noSign tells where Sign doesn't answer this code, and nothing beside it.
func noSign(t *testing.T, p api.Pair, s api.Seed, q uint32, text []byte, want api.Code, what ...any) {
	t.Helper()
	if got, e := lms.Sign(p, s, q, text); e != want || len(got) != 0 {
		t.Errorf("P12.1: Sign(%+v), %v, leaf %v, bytes of text, name and secret %v, %v, %v: %v, %x, not %v", p, what, q, len(text), len(s.Name), len(s.Secret), e, got, want)
	}
}

// fits tells where a signature doesn't fit.
func fits(t *testing.T, public, text, sig []byte, what ...any) {
	t.Helper()
	if !lms.Fits(public, text, sig) {
		t.Errorf("P12.3: not Fits, %v", what)
	}
}

// expectMade tells where the public key of a seed, or the signatures at these leaves, aren't as put together by hand, or don't fit.
func expectMade(t *testing.T, f family, s api.Seed, qs []uint32, text []byte, what ...any) {
	t.Helper()
	h := byHand(f, s)
	pub := public(t, f, s)
	expect(t, pub, h.made(), "P12.1: Public", what, f.pair)
	for _, q := range qs {
		sig := sign(t, f, s, q, text)
		expect(t, sig, h.signed(q, text), "P12.1: Sign", what, f.pair, q)
		fits(t, pub, text, sig, what, f.pair, q)
	}
}

// each runs a test for each family, beside each other.
func each(t *testing.T, list []family, do func(t *testing.T, f family)) {
	t.Helper()
	for _, f := range list {
		t.Run(strconv.FormatUint(uint64(f.pair.Ots), 10)+" "+strconv.FormatUint(uint64(f.pair.Tree), 16), func(t *testing.T) {
			t.Parallel()
			do(t, f)
		})
	}
}

// P12.1: the chapter's example: of the sets 7 and 0xf0000006 a public key has 48 bytes, a signature 8 + 1252 + 48.
func TestExample(t *testing.T) {
	f := some(api.Pair{Ots: 7, Tree: 0xf0000006})[0]
	if n, m := lms.Sizes(f.pair); n != 48 || m != 8+1252+48 {
		t.Errorf("P12.1: Sizes: %v, %v", n, m)
	}
	s := rows.Seed(24, 1)
	if pub, e := lms.Public(f.pair, s); e != api.OK || len(pub) != 48 {
		t.Errorf("P12.1: Public: %v, %v bytes", e, len(pub))
	}
	for q := range uint32(4) {
		if sig, e := lms.Sign(f.pair, s, q, []byte("a text")); e != api.OK || len(sig) != 8+1252+48 {
			t.Errorf("P12.1: Sign: %v, %v bytes", e, len(sig))
		}
	}
}

// unhex: bytes that are written out.
func unhex(t *testing.T, text string) []byte {
	t.Helper()
	b, err := hex.DecodeString(text)
	if err != nil {
		t.Fatal(err)
	}
	return b
}

// P12.1: public keys that others published, with their seeds.
func TestPublishedKeys(t *testing.T) {
	for _, c := range []struct {
		pair               api.Pair
		name, secret, root string
	}{
		{api.Pair{Ots: 3, Tree: 6}, "d08fabd4a2091ff0a8cb4ed834e74534", "558b8966c48ae9cb898b423c83443aae014a72f1b1ab5cc85cf1d892903b5439", "32a58885cd9ba0431235466bff9651c6c92124404d45fa53cf161c28f1ad5a8e"},
		{api.Pair{Ots: 4, Tree: 5}, "215f83b7ccb9acbcd08db97b0d04dc2b", "a1c4696e2608035a886100d05cd99945eb3370731884a8235e2fb3d4d71f2547", "a1cd035833e0e90059603f26e07ad2aad152338e7a5e5984bcd5f7bb4eba40b7"},
		{api.Pair{Ots: 8, Tree: 10}, "202122232425262728292a2b2c2d2e2f", "000102030405060708090a0b0c0d0e0f1011121314151617", "2c571450aed99cfb4f4ac285da14882796618314508b12d2"},
		{api.Pair{Ots: 16, Tree: 20}, "505152535455565758595a5b5c5d5e5f", "303132333435363738393a3b3c3d3e3f4041424344454647", "db54a4509901051c01e26d9990e550347986da87924ff0b1"},
	} {
		f := some(c.pair)[0]
		s := api.Seed{Name: unhex(t, c.name), Secret: unhex(t, c.secret)}
		expect(t, public(t, f, s), f.public(s.Name, unhex(t, c.root)), "P12.1: Public, published", c.pair)
	}
}

// P12.1: a signature that others published: how it begins, up to its first chain, and how it ends, from the tree's code on.
func TestPublishedSignature(t *testing.T) {
	f := some(api.Pair{Ots: 8, Tree: 10})[0]
	s := api.Seed{Name: unhex(t, "202122232425262728292a2b2c2d2e2f"), Secret: unhex(t, "000102030405060708090a0b0c0d0e0f1011121314151617")}
	begins := unhex(t, "00000005"+"00000008"+"0b5040a18c1b5cabcbc85b047402ec6294a30dd8da8fc3da"+"e13b9f0875f09361dc77fcc4481ea463c073716249719193")
	ends := unhex(t, "0000000a"+"e9ca10eaa811b22ae07fb195e3590a334ea64209942fbae3"+"38d19f152182c807d3c40b189d3fcbea942f44682439b191"+"332d33ae0b761a2a8f984b56b2ac2fd4ab08223a69ed1f77"+"19c7aa7e9eee96504b0e60c6bb5c942d695f0493eb25f80a"+"5871cffd131d0e04ffe5065bc7875e82d34b40b69dd9f3c1")
	sig := sign(t, f, s, 5, []byte("Test message for SHA256-192\n"))
	expect(t, sig[:len(begins)], begins, "P12.1: Sign, published, the beginning")
	expect(t, sig[len(sig)-len(ends):], ends, "P12.1: Sign, published, the end")
}

// P12.1: May of every pair of two known sets, and of others.
func TestMay(t *testing.T) {
	for _, f := range families() {
		if !lms.May(f.pair) {
			t.Errorf("P12.1: not May(%+v)", f.pair)
		}
	}
	none := rows.NoPairs()
	if len(none) < 16*36-144 {
		t.Fatalf("%v pairs that may not be", len(none))
	}
	for _, p := range none {
		if lms.May(p) {
			t.Errorf("P12.1: May(%+v)", p)
		}
	}
}

// P12.1: Sizes of every pair that may be, and of such as may not.
func TestSizes(t *testing.T) {
	firsts := []int{
		8516, 4292, 2180, 1124, 4828, 2452, 1252, 652,
		8516, 4292, 2180, 1124, 4828, 2452, 1252, 652,
	}
	for _, f := range families() {
		wantPublic, wantSig := 24+f.t.N, 8+firsts[f.o.Code-1]+f.t.N*f.t.H
		if n, m := lms.Sizes(f.pair); n != wantPublic || m != wantSig || n != f.publicLen() || m != f.sigLen() {
			t.Errorf("P12.1: Sizes(%+v): %v, %v, not %v, %v", f.pair, n, m, wantPublic, wantSig)
		}
	}
	for _, p := range rows.NoPairs() {
		if n, m := lms.Sizes(p); n != 0 || m != 0 {
			t.Errorf("P12.1: Sizes(%+v): %v, %v, not 0, 0", p, n, m)
		}
	}
}

// P12.1, P12.3: public keys and signatures of all low pairs, at every leaf (with -short: at some).
func TestLow(t *testing.T) {
	each(t, high(1, 4), func(t *testing.T, f family) {
		qs := f.all()
		if testing.Short() || f.o.W == 8 && f.t.H == 4 {
			qs = f.edges()
		}
		expectMade(t, f, rows.Seed(f.o.N, 2), qs, []byte("a text"), "low")
	})
}

// P12.1, P12.3: public keys and signatures of higher trees, of both kinds and sizes, of several widths, at leaves at their edges.
func TestHigher(t *testing.T) {
	list := some(
		api.Pair{Ots: 1, Tree: 5}, api.Pair{Ots: 2, Tree: 5}, api.Pair{Ots: 3, Tree: 5},
		api.Pair{Ots: 5, Tree: 10}, api.Pair{Ots: 7, Tree: 10}, api.Pair{Ots: 8, Tree: 10},
		api.Pair{Ots: 10, Tree: 15}, api.Pair{Ots: 11, Tree: 15},
		api.Pair{Ots: 13, Tree: 20}, api.Pair{Ots: 14, Tree: 20},
	)
	if !testing.Short() {
		list = append(list, some(api.Pair{Ots: 2, Tree: 6}, api.Pair{Ots: 6, Tree: 11}, api.Pair{Ots: 10, Tree: 16}, api.Pair{Ots: 14, Tree: 21})...)
	}
	each(t, list, func(t *testing.T, f family) {
		expectMade(t, f, rows.Seed(f.o.N, 3), f.edges(), []byte("another text"), "higher")
	})
}

// P12.1: nothing of pairs that may not be, whatever the seed, the leaf and the text are: Unknown.
func TestNoPairs(t *testing.T) {
	long := make([]byte, api.MaxText+1)
	for _, p := range rows.NoPairs() {
		for _, s := range []api.Seed{rows.Seed(24, 4), rows.Seed(32, 4), {}, {Name: rows.Mixed(15, 4), Secret: rows.Mixed(32, 5)}} {
			noPublic(t, p, s, api.Unknown, "no pair")
			noSign(t, p, s, 0, []byte("a text"), api.Unknown, "no pair")
			noSign(t, p, s, math.MaxUint32, long, api.Unknown, "no pair, all wrong")
		}
	}
}

// P12.1: nothing of pairs that may be, but can't be made, since their trees are higher than 10: Arg.
func TestTooHigh(t *testing.T) {
	list := high(11, 25)
	if len(list) != 4*4*3 {
		t.Fatalf("%v pairs of high trees", len(list))
	}
	for _, f := range list {
		for _, s := range append(rows.Seeds(f.o.N), rows.NoSeeds(f.o.N)...) {
			noPublic(t, f.pair, s, api.Arg, "too high")
			for _, q := range []uint32{0, f.leaves() - 1, f.leaves(), math.MaxUint32} {
				noSign(t, f.pair, s, q, []byte("a text"), api.Arg, "too high")
			}
		}
		noSign(t, f.pair, rows.Seed(f.o.N, 5), 0, make([]byte, api.MaxText+1), api.Arg, "too high, a long text")
	}
}

// P12.1: seeds of noughts, of ones, and with spare room.
func TestSeeds(t *testing.T) {
	each(t, few(), func(t *testing.T, f family) {
		for i, s := range rows.Seeds(f.o.N) {
			expectMade(t, f, s, f.edges(), []byte("a text"), "seed", i)
		}
	})
}

// P12.1: nothing of seeds that may not be of the pair, by their name, their secret, or both: Arg.
func TestNoSeeds(t *testing.T) {
	for _, f := range high(1, 10) {
		for _, s := range rows.NoSeeds(f.o.N) {
			noPublic(t, f.pair, s, api.Arg, "no seed")
			noSign(t, f.pair, s, 0, nil, api.Arg, "no seed")
			noSign(t, f.pair, s, f.leaves(), []byte("a text"), api.Arg, "no seed, no leaf")
		}
	}
}

// P12.1, P12.3: texts of many lengths, up to MaxText bytes; nothing of longer ones: Arg.
func TestTexts(t *testing.T) {
	long := rows.Mixed(2*api.MaxText, 6)
	each(t, few(), func(t *testing.T, f family) {
		s, q := rows.Seed(f.o.N, 7), f.leaves()-1
		h, pub := byHand(f, s), public(t, f, s)
		for _, n := range []int{0, 1, 55, 56, 64, 135, 136, 1000, api.MaxText - 1, api.MaxText} {
			sig := sign(t, f, s, q, long[:n])
			expect(t, sig, h.signed(q, long[:n]), "P12.1: Sign, bytes of text", f.pair, n)
			fits(t, pub, long[:n], sig, "bytes of text", f.pair, n)
		}
		expect(t, sign(t, f, s, q, nil), sign(t, f, s, q, []byte{}), "P12.1: Sign, no text", f.pair)
		for _, n := range []int{api.MaxText + 1, api.MaxText + 2, 2 * api.MaxText} {
			noSign(t, f.pair, s, q, long[:n], api.Arg, "a long text")
			noSign(t, f.pair, s, q, slices.Clip(long[:n]), api.Arg, "a long text")
			noSign(t, f.pair, s, f.leaves(), long[:n], api.Arg, "a long text, no leaf")
			noSign(t, f.pair, s, math.MaxUint32, long[:n], api.Arg, "a long text, no leaf")
		}
	})
}

// P12.1: nothing of leaves that there aren't, from the first beyond the last one on: Exhausted. The last one signs.
func TestNoLeaf(t *testing.T) {
	for _, f := range high(1, 10) {
		s := rows.Seed(f.o.N, 8)
		for _, q := range f.beyond() {
			noSign(t, f.pair, s, q, nil, api.Exhausted, "no leaf")
			noSign(t, f.pair, s, q, make([]byte, api.MaxText), api.Exhausted, "no leaf")
		}
	}
	for _, f := range few() {
		s, q := rows.Seed(f.o.N, 8), f.leaves()-1
		expect(t, sign(t, f, s, q, nil), byHand(f, s).signed(q, nil), "P12.1: Sign, the last leaf", f.pair)
	}
}

// P12.1: where several codes apply, the answer is the one that the chapter names first.
func TestNamedFirst(t *testing.T) {
	text, long := []byte("a text"), make([]byte, api.MaxText+1)
	may, none, tall := api.Pair{Ots: 7, Tree: 0xf0000006}, api.Pair{Ots: 7, Tree: 0xf0000002}, api.Pair{Ots: 7, Tree: 12}
	good, bad := rows.Seed(24, 9), api.Seed{Name: rows.Mixed(17, 9), Secret: rows.Mixed(24, 9)}
	for _, c := range []struct {
		what string
		pair api.Pair
		s    api.Seed
		q    uint32
		text []byte
		want api.Code
	}{
		{"the pair", none, good, 0, text, api.Unknown},
		{"the pair and the leaf", none, good, 4, text, api.Unknown},
		{"the pair and the text", none, good, 0, long, api.Unknown},
		{"the pair and the seed", none, bad, 0, text, api.Unknown},
		{"the pair, the seed, the leaf and the text", none, bad, 4, long, api.Unknown},
		{"the height", tall, good, 0, text, api.Arg},
		{"the height and the leaf", tall, good, 1 << 15, text, api.Arg},
		{"the height, the seed, the leaf and the text", tall, bad, 1 << 15, long, api.Arg},
		{"the seed", may, bad, 0, text, api.Arg},
		{"the seed and the leaf", may, bad, 4, text, api.Arg},
		{"the text", may, good, 0, long, api.Arg},
		{"the text and the leaf", may, good, 4, long, api.Arg},
		{"the seed, the leaf and the text", may, bad, 4, long, api.Arg},
		{"the leaf", may, good, 4, text, api.Exhausted},
	} {
		noSign(t, c.pair, c.s, c.q, c.text, c.want, c.what)
	}
	noPublic(t, none, bad, api.Unknown, "the pair and the seed")
	noPublic(t, tall, bad, api.Arg, "the height and the seed")
}

// P12.1: public keys hang on each byte of the name and of the secret, and on the sets.
func TestPublicUnlike(t *testing.T) {
	for _, f := range some(api.Pair{Ots: 3, Tree: 0xf0000001}, api.Pair{Ots: 7, Tree: 0xf0000005}, api.Pair{Ots: 10, Tree: 0xf0000009}, api.Pair{Ots: 14, Tree: 0xf000000d}) {
		s := rows.Seed(f.o.N, 10)
		seen := map[string]string{}
		add := func(what string, at int, s api.Seed) {
			root := string(public(t, f, s)[24:])
			if was := seen[root]; was != "" {
				t.Errorf("P12.1: Public(%+v): %v %v is as %v", f.pair, what, at, was)
			}
			seen[root] = what + " " + strconv.Itoa(at)
		}
		add("as it is", 0, s)
		for i := range s.Name {
			add("a byte of the name", i, api.Seed{Name: rows.Turned(s.Name, i), Secret: s.Secret})
		}
		for i := range s.Secret {
			add("a byte of the secret", i, api.Seed{Name: s.Name, Secret: rows.Turned(s.Secret, i)})
		}
	}
	roots := map[string]api.Pair{}
	for _, f := range high(1, 3) {
		root := string(public(t, f, rows.Seed(f.o.N, 10))[24:])
		if was, ok := roots[root]; ok {
			t.Errorf("P12.1: Public(%+v) has the root of %+v", f.pair, was)
		}
		roots[root] = f.pair
	}
}
