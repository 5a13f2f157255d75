package store_test

import (
	"bytes"
	"encoding/hex"
	"slices"
	"strings"
	"testing"

	"tearoff/api"
	"tearoff/rows"
	"tearoff/store"
)

// names may be, some of which are no text; noNames may not, some of which have as many bytes as may be by the last byte of that.
func names() []string {
	return []string{"a", "\x00", "\xff", " ", "ab", "a\x00", "key of a store", "fifteen bytes..", "0123456789abcdef", "\xc3\x28", "\xed\xa0\x80", "schl\u00fcssel", strings.Repeat("\x00", 16), strings.Repeat("\xff", 16), string(rows.Mixed(16, 7))}
}

func noNames() []string {
	out := []string{""}
	for _, n := range []int{17, 18, 19, 24, 32, 33, 64, 100, 128, 254, 255, 256, 257, 256 + 16, 512 + 3, 1<<16 + 1} {
		out = append(out, strings.Repeat("n", n), string(make([]byte, n)))
	}
	return append(out, strings.Repeat("\u00e9", 8)+"e", strings.Repeat("\u00e9", 16))
}

// madeLevels can be made: each pair that can, by itself, and levels of as many as may be, up to 60 high.
func madeLevels() [][]api.Pair {
	var out [][]api.Pair
	for _, p := range rows.Pairs() {
		if l := []api.Pair{p}; high(l) <= 10 {
			out = append(out, l)
		}
	}
	for sort := range rows.SumCount {
		for _, heights := range [][]int{{1, 2}, {10, 10}, {3, 1, 2}, {4, 3, 2, 1}, {1, 1, 1, 1, 1}, {10, 10, 10, 10, 10, 10}, {10, 10, 10, 10, 10, 5, 5}, {1, 2, 3, 4, 5, 10, 1}, {1, 1, 1, 1, 1, 1, 1, 1}, {5, 5, 10, 10, 10, 10, 5, 5}, {10, 10, 10, 10, 10, 4, 4, 2}} {
			out = append(out, rows.Levels(sort, heights...))
		}
		one := rows.Pair(sort, 8, 2)
		for n := 2; n <= 8; n++ {
			out = append(out, slices.Repeat([]api.Pair{one}, n))
		}
	}
	return out
}

// highLevels may be, but can't be made: by a tree that is too high, the only one, one of several, or all.
func highLevels() [][]api.Pair {
	var out [][]api.Pair
	for _, p := range rows.Pairs() {
		if l := []api.Pair{p}; high(l) > 10 {
			out = append(out, l)
		}
	}
	for sort := range rows.SumCount {
		for _, h := range []int{15, 20, 25} {
			for n := 2; n <= 8; n++ {
				for at := range n {
					heights := slices.Repeat([]int{1}, n)
					heights[at] = h
					out = append(out, rows.Levels(sort, heights...))
				}
			}
		}
		for _, l := range rows.TallLevels(sort) {
			if slices.ContainsFunc(l, func(p api.Pair) bool { return high([]api.Pair{p}) > 10 }) {
				out = append(out, l)
			}
		}
	}
	return out
}

// set is what hangs on a pair: its sort of sums, how many bytes these have, and its tree's height.
type set struct{ kind, n, h int }

// sets: of each pair that may be.
var sets = func() map[api.Pair]set {
	out := map[api.Pair]set{}
	for _, p := range rows.Pairs() {
		o, t := rows.SetsOf(p)
		out[p] = set{o.Kind, o.N, t.H}
	}
	return out
}()

// mayBe: whether a key may be, in the chapter's words, with a batch that may be.
func mayBe(name string, l []api.Pair, s api.Seed) bool {
	if len(name) == 0 || len(name) > 16 || len(l) == 0 || len(l) > 8 {
		return false
	}
	top, sum := sets[l[0]], 0
	for _, p := range l {
		x, there := sets[p]
		if !there || x.kind != top.kind || x.n != top.n || x.h > 10 {
			return false
		}
		sum += x.h
	}
	return sum <= 60 && len(s.Name) == 16 && len(s.Secret) == top.n
}

// parseByHand: what Parse must answer; false, if it must tell Malformed.
func parseByHand(b []byte) (name string, l []api.Pair, s api.Seed, ok bool) {
	next := func(n int) []byte {
		n = min(n, len(b)) // what is too short may not be, either
		out := b[:n]
		b = b[n:]
		return out
	}
	number := func(n int) (v uint32) {
		for _, c := range next(n) {
			v = v<<8 + uint32(c)
		}
		return v
	}
	name = string(next(int(number(1))))
	for range number(1) {
		tree := number(4)
		l = append(l, api.Pair{Tree: tree, Ots: number(4)})
	}
	s = api.Seed{Name: next(16), Secret: b}
	return name, l, s, mayBe(name, l, s)
}

// puts tells where Head doesn't answer the head put together by hand.
func puts(t *testing.T, name string, l []api.Pair, s api.Seed) {
	t.Helper()
	want := headByHand(name, l, s)
	if head, e := store.Head(name, l, s); e != api.OK || !bytes.Equal(head, want) {
		t.Errorf("P22.1: Head(%q, %v, %x): %x, %v, not %x", name, l, s, head, e, want)
	}
}

// noHead tells where Head answers something of what may not be.
func noHead(t *testing.T, name string, l []api.Pair, s api.Seed) {
	t.Helper()
	if mayBe(name, l, s) {
		t.Fatalf("a test of Arg: %.20q, %v, %x may be", name, l, s)
	}
	if head, e := store.Head(name, l, s); e != api.Arg || len(head) != 0 {
		t.Errorf("P22.1: Head(%v bytes, %v, bytes of name and secret %v, %v): %x, %v, not Arg", len(name), l, len(s.Name), len(s.Secret), head, e)
	}
}

// parses tells where a head isn't parsed as by hand, or what it tells isn't put so. Whether it is one.
func parses(t *testing.T, head []byte) bool {
	t.Helper()
	name, l, s, e := store.Parse(head)
	wantName, wantL, want, ok := parseByHand(head)
	if !ok {
		if e != api.Malformed || name != "" || len(l) != 0 || len(s.Name) != 0 || len(s.Secret) != 0 {
			t.Errorf("P22.1: Parse(%x): %q, %v, %x, %v, not Malformed", head, name, l, s, e)
		}
		return false
	}
	if e != api.OK || name != wantName || !slices.Equal(l, wantL) || !bytes.Equal(s.Name, want.Name) || !bytes.Equal(s.Secret, want.Secret) {
		t.Errorf("P22.1: Parse(%x): %q, %v, %x, %v, not %q, %v, %x", head, name, l, s, e, wantName, wantL, want)
	}
	if b, e := store.Head(name, l, s); e != api.OK || !bytes.Equal(b, head) {
		t.Errorf("P22.1: Head of what Parse(%x) tells: %x, %v", head, b, e)
	}
	return true
}

// isHead tells where a head isn't parsed; noneOf where one of these is.
func isHead(t *testing.T, head []byte) {
	t.Helper()
	if !parses(t, head) {
		t.Errorf("P22.1: Parse(%x): none by hand", head)
	}
}

func noneOf(t *testing.T, heads ...[]byte) {
	t.Helper()
	for _, head := range heads {
		if parses(t, head) {
			t.Errorf("P22.1: Parse(%x): one by hand", head)
		}
	}
}

// P22.1: heads written out, byte by byte.
func TestWrittenOut(t *testing.T) {
	for _, c := range []struct {
		text string
		name string
		l    []api.Pair
		s    api.Seed
	}{
		{"01" + "62" + "02" + "f000000500000007" + "f000000500000007" + "30313233343536373839616263646566" + strings.Repeat("07", 24),
			"b", []api.Pair{{Ots: 7, Tree: 0xf0000005}, {Ots: 7, Tree: 0xf0000005}}, api.Seed{Name: []byte("0123456789abcdef"), Secret: bytes.Repeat([]byte{7}, 24)}},
		{"10" + "ff000102030405060708090a0b0c0d0e" + "01" + "0000000500000004" + strings.Repeat("01", 16) + strings.Repeat("fe", 32),
			"\xff\x00\x01\x02\x03\x04\x05\x06\x07\x08\x09\x0a\x0b\x0c\x0d\x0e", []api.Pair{{Ots: 4, Tree: 5}}, api.Seed{Name: bytes.Repeat([]byte{1}, 16), Secret: bytes.Repeat([]byte{254}, 32)}},
		{"03" + "6b6579" + "03" + "f00000100000000d" + "000000140000000e" + "f000000d0000000f" + strings.Repeat("00", 16) + strings.Repeat("00", 24),
			"key", []api.Pair{{Ots: 13, Tree: 0xf0000010}, {Ots: 14, Tree: 20}, {Ots: 15, Tree: 0xf000000d}}, api.Seed{Name: make([]byte, 16), Secret: make([]byte, 24)}},
	} {
		b, err := hex.DecodeString(c.text)
		if err != nil {
			t.Fatal(err)
		}
		if !bytes.Equal(headByHand(c.name, c.l, c.s), b) {
			t.Errorf("the head by hand isn't %v", c.text)
		}
		puts(t, c.name, c.l, c.s)
		isHead(t, b)
	}
}

// P22.1: Head of all keys that may be, of names, levels and seeds of each sort; and Parse of these heads.
func TestHeads(t *testing.T) {
	for i, l := range madeLevels() {
		for j, name := range names() {
			for k, s := range rows.Seeds(sizeOf(l)) {
				if i%5 == 0 || j == 0 || k == 0 {
					puts(t, name, l, s)
					isHead(t, headByHand(name, l, s))
				}
			}
		}
	}
}

// P22.1: names of one byte, whichever it is, and of each length up to 16.
func TestNames(t *testing.T) {
	l := rows.Levels(1, 2)
	for c := range 256 {
		puts(t, string([]byte{byte(c)}), l, rows.Seed(24, 1))
		isHead(t, headByHand(string([]byte{byte(c)}), l, rows.Seed(24, 1)))
	}
	for n := 1; n <= 16; n++ {
		name := string(rows.Mixed(n, byte(n)))
		puts(t, name, l, rows.Seed(24, 1))
		isHead(t, headByHand(name, l, rows.Seed(24, 1)))
	}
}

// P22.1: Head of a name that may not be, with levels and a seed that may, and may not: Arg. Parse of such heads, as they would be: Malformed.
func TestNoNames(t *testing.T) {
	for _, name := range noNames() {
		for _, l := range [][]api.Pair{rows.Levels(0, 1), rows.Levels(3, 2, 1), rows.Levels(2, 1, 1, 1, 1, 1, 1, 1, 1), rows.Levels(1, 15), nil} {
			for _, s := range []api.Seed{rows.Seed(24, 1), rows.Seed(32, 1), {}} {
				noHead(t, name, l, s)
				if len(name) < 256 {
					noneOf(t, headByHand(name, l, s))
				}
			}
		}
	}
}

// P22.1: Head of levels that may not be, or that can't be made: Arg, whatever the seed is. Parse of such heads: Malformed.
func TestNoLevels(t *testing.T) {
	for _, l := range slices.Concat(rows.NoLevels(), highLevels()) {
		for _, s := range []api.Seed{rows.Seed(24, 1), rows.Seed(32, 1), {}} {
			noHead(t, "name", l, s)
			if len(l) < 256 {
				noneOf(t, headByHand("name", l, s))
			}
		}
	}
}

// P22.1: every two pairs are levels of a key, if their sums are alike and neither tree is too high; a seed may be of the first.
func TestEveryTwo(t *testing.T) {
	for p, x := range sets {
		for q, y := range sets {
			l, s := []api.Pair{p, q}, rows.Seed(x.n, 1)
			if x.kind == y.kind && x.n == y.n && max(x.h, y.h) <= 10 {
				puts(t, "name", l, s)
				isHead(t, headByHand("name", l, s))
			} else {
				noHead(t, "name", l, s)
				noneOf(t, headByHand("name", l, s))
			}
		}
	}
}

// P22.1: Head of a seed that may not be of the first level: Arg. Parse of such heads: Malformed, but where the Name and the Secret are together as long as must be: that is another seed's head.
func TestNoSeeds(t *testing.T) {
	for sort := range rows.SumCount {
		for _, l := range [][]api.Pair{rows.Levels(sort, 1), rows.Levels(sort, 10, 1), rows.Levels(sort, 1, 1, 1, 1, 1, 1, 1, 1)} {
			for _, s := range rows.NoSeeds(sizeOf(l)) {
				noHead(t, "name", l, s)
				head := headByHand("name", l, s)
				if parses(t, head) != (len(s.Name)+len(s.Secret) == 16+sizeOf(l)) {
					t.Errorf("P22.1: Parse(%x) by hand", head)
				}
			}
		}
	}
}

// few: heads of unlike lengths: of one level and of two, of three, and of as many as may be, of each sort of sums.
func few() [][]byte {
	var out [][]byte
	for sort, name := range []string{"a", "0123456789abcdef", "\xff\x00", "name"} {
		for _, heights := range [][]int{{2}, {10, 1}, {1, 2, 3}, {10, 10, 10, 10, 10, 5, 4, 1}} {
			out = append(out, key(name, 1, sort, heights...).head())
		}
	}
	return out
}

// P22.1: Parse of a head that is cut off, at every place, from behind and from the front; and with bytes more.
func TestParseCut(t *testing.T) {
	for _, head := range few() {
		for i := range head {
			noneOf(t, head[:i], head[:i:i])
			parses(t, head[i:])
		}
		for c := range 256 {
			noneOf(t, append(slices.Clone(head), byte(c)))
			parses(t, append([]byte{byte(c)}, head...))
		}
		noneOf(t, append(slices.Clone(head), make([]byte, 8)...), append(slices.Clone(head), head...), slices.Concat(head, make([]byte, 1<<16)))
	}
	noneOf(t, nil, []byte{}, make([]byte, 42), make([]byte, 255), bytes.Repeat([]byte{255}, 1<<16))
}

// P22.1: Parse of a head in which a byte is another one, at every place, each other one; and in which a byte is missing, or there twice.
func TestParseTurned(t *testing.T) {
	for _, head := range few() {
		for i := range head {
			for c := range 256 {
				turned := slices.Clone(head)
				turned[i] = byte(c)
				parses(t, turned)
			}
			noneOf(t, slices.Delete(slices.Clone(head), i, i+1))
			parses(t, slices.Insert(slices.Clone(head), i, head[i]))
		}
	}
}

// P22.1: Parse of heads that begin with each two lengths, of the name and of the levels, and have as many bytes as these tell, or not.
func TestParseLengths(t *testing.T) {
	for n := range 256 {
		for levels := range 256 {
			if n > 20 && levels > 12 && (n+levels)%16 != 0 {
				continue
			}
			l := slices.Repeat([]api.Pair{rows.Levels(2, 1)[0]}, levels)
			head := headByHand(string(rows.Mixed(n, 1)), l, rows.Seed(32, 1))
			if parses(t, head) != (n >= 1 && n <= 16 && levels >= 1 && levels <= 8) {
				t.Errorf("P22.1: Parse by hand, of a name of %v bytes and %v levels", n, levels)
			}
			noneOf(t, head[:len(head)-1])
			parses(t, head[:min(len(head), n+1)])
			parses(t, head[:min(len(head), n+2+8*levels)])
		}
	}
}

// P22.1: Parse of mixed bytes that begin as heads do, and of heads of which some bytes are mixed.
func TestParseMixed(t *testing.T) {
	m, all := mixed(1), few()
	for range 20000 {
		b := rows.MixedRow(m, m.IntN(200))
		for i := range b {
			if m.IntN(3) > 0 {
				b[i] &= 15
			}
		}
		parses(t, b)
		head := slices.Clone(all[m.IntN(len(all))])
		for range m.IntN(4) {
			head[m.IntN(len(head))] ^= 1 << m.IntN(8)
		}
		parses(t, head)
	}
}
