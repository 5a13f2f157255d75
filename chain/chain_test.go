package chain_test

import (
	"bytes"
	"crypto/sha256"
	"crypto/sha3"
	"encoding/binary"
	"encoding/hex"
	"math"
	"slices"
	"testing"

	"tearoff/api"
	"tearoff/chain"
	"tearoff/rows"
	"tearoff/sha2"
	"tearoff/shake"
)

// kinds are those that there are, as layers 2 and 5 sum them, and as others do.
var kinds = []struct{ layer, other func(b []byte, n int) []byte }{
	{func(b []byte, n int) []byte { return sha2.One(b)[:n] }, func(b []byte, n int) []byte { s := sha256.Sum256(b); return s[:n] }},
	{shake.Sum, sha3.SumSHAKE256},
}

// sizes are the bytes that a sum may have.
var sizes = []int{24, 32}

// noKinds, noSizes are numbers of which there is no kind, and no size.
var (
	noKinds = []int{-1, -2, 2, 3, 4, 16, 24, 32, 255, 256, 257, 1 << 16, 1<<16 + 1, math.MaxInt32, math.MinInt32, 1 << 32, 1<<32 + 1, math.MaxInt, math.MinInt, math.MinInt + 1}
	noSizes = []int{0, 1, -1, 2, 16, 20, 23, 25, 28, 31, 33, 48, 64, 136, -24, -32, 256 + 24, 256 + 32, api.MaxText, api.MaxText + 1, 1<<16 + 24, 1<<16 + 32, 1<<32 + 24, 1<<32 + 32, math.MaxInt, math.MinInt, math.MinInt + 24, math.MinInt + 32}
)

// far are numbers that are none of a chain's or a step's, near to some that are or not: by their last bytes some would be.
var far = []int{-1, -2, -255, -256, -1 << 16, math.MinInt32, math.MinInt32 + 1, math.MinInt, math.MinInt + 1, 1 << 9, 1 << 15, 1<<16 - 1, 1 << 16, 1<<16 + 1, math.MaxInt32, 1 << 31, 1 << 32, 1<<32 + 1, math.MaxInt - 1, math.MaxInt}

// name is the one that tests take where nothing hangs on which.
var name = []byte("0123456789abcdef")

// partText: what is summed of a part, laid out here.
func partText(name []byte, q uint32, d uint16, texts ...[]byte) []byte {
	b := binary.BigEndian.AppendUint32(bytes.Clone(name), q)
	b = binary.BigEndian.AppendUint16(b, d)
	return append(b, bytes.Join(texts, nil)...)
}

// stepText: what is summed of a step.
func stepText(name []byte, q uint32, i, j int, x []byte) []byte {
	return partText(name, q, uint16(i), []byte{byte(j)}, x)
}

// risen: x gone up, each step summed by others.
func risen(o api.Ots, name []byte, q uint32, i, from, to int, x []byte) []byte {
	for j := from; j < to; j++ {
		x = kinds[o.Kind].other(stepText(name, q, i, j, x), o.N)
	}
	return x
}

// expect tells where bytes aren't those that they must be.
func expect(t *testing.T, what string, got, want []byte) {
	t.Helper()
	if !bytes.Equal(got, want) {
		t.Errorf("%v: %v bytes, %x, not %v, %x", what, len(got), got, len(want), want)
	}
}

// expectSum tells where bytes aren't the sum of a text, by layers 2 and 5, and by others.
func expectSum(t *testing.T, what string, kind, n int, got, text []byte) {
	t.Helper()
	expect(t, what, got, kinds[kind].layer(text, n))
	expect(t, what, got, kinds[kind].other(text, n))
}

// nothing tells where bytes are there that may not be.
func nothing(t *testing.T, got []byte, what ...any) {
	t.Helper()
	if len(got) != 0 {
		t.Errorf("%v: %x, not nothing", what, got)
	}
}

// parted: b in parts, each as long as size tells.
func parted(b []byte, size func(i int) int) [][]byte {
	var out [][]byte
	for i := 0; len(b) > 0; i++ {
		n := min(size(i), len(b))
		out = append(out, b[:n])
		b = b[n:]
	}
	return out
}

// P9.2: the chapter's example: up from 3 to 3: x. (Of sets whose width knows a 3.)
func TestExample(t *testing.T) {
	for _, o := range rows.Sets() {
		x := rows.Mixed(o.N, 1)
		if o.W == 1 {
			nothing(t, chain.Up(o, name, 1, 2, 3, 3, x), "P9.2: Up from 3 to 3, of width 1, set", o.Code)
			continue
		}
		expect(t, "P9.2: Up from 3 to 3", chain.Up(o, name, 1, 2, 3, 3, x), rows.Mixed(o.N, 1))
	}
}

// P9.1: sums that are published.
func TestSumPublished(t *testing.T) {
	for _, c := range []struct {
		kind       int
		text, want string
	}{
		{0, "", "e3b0c44298fc1c149afbf4c8996fb92427ae41e4649b934ca495991b7852b855"},
		{0, "abc", "ba7816bf8f01cfea414140de5dae2223b00361a396177a9cb410ff61f20015ad"},
		{1, "", "46b9dd2b0ba88d13233b3feb743eeb243fcd52ea62b81b82b50c27646ed5762f"},
		{1, "abc", "483366601360a8771c6863080cc4114d8db44530f8f1e1ee4f94ea37e78b5739"},
	} {
		want, err := hex.DecodeString(c.want)
		if err != nil {
			t.Fatal(err)
		}
		for _, n := range sizes {
			expect(t, "P9.1: Sum, published", chain.Sum(c.kind, n, []byte(c.text)), want[:n])
			expect(t, "P9.1: Sum, published, in parts", chain.Sum(c.kind, n, parted([]byte(c.text), func(int) int { return 1 })...), want[:n])
		}
	}
}

// P9.1: sums of no part, and of empty ones, alone and between others.
func TestSumEmptyParts(t *testing.T) {
	many := make([][]byte, 500)
	for kind := range kinds {
		for _, n := range sizes {
			for _, parts := range [][][]byte{nil, {}, {nil}, {{}}, {nil, {}, nil}, {rows.Guarded(nil)}, many} {
				expectSum(t, "P9.1: Sum of nothing", kind, n, chain.Sum(kind, n, parts...), nil)
				one := slices.Concat(parts, [][]byte{[]byte("a")}, parts, [][]byte{[]byte("bc")}, parts)
				expectSum(t, "P9.1: Sum, empty parts between", kind, n, chain.Sum(kind, n, one...), []byte("abc"))
			}
			expectSum(t, "P9.1: Sum of no part", kind, n, chain.Sum(kind, n), nil)
		}
	}
}

// P9.1: sums of many parts, of every length up to some blocks, and of long texts.
func TestSumParts(t *testing.T) {
	lengths := []int{1000, api.MaxText - 1, api.MaxText, api.MaxText + 1, 1<<20 + 7}
	for n := range 290 {
		lengths = append(lengths, n)
	}
	for _, length := range lengths {
		b := rows.Mixed(length, 2)
		for kind := range kinds {
			for _, n := range sizes {
				expectSum(t, "P9.1: Sum, one part", kind, n, chain.Sum(kind, n, b), b)
				for _, size := range []func(int) int{func(int) int { return length/2 + 1 }, func(int) int { return length/300 + 1 }, func(i int) int { return i }} {
					expectSum(t, "P9.1: Sum, parts", kind, n, chain.Sum(kind, n, parted(b, size)...), b)
				}
			}
		}
	}
}

// P9.1: in which order parts stand tells; so does a part that is there twice.
func TestSumOrder(t *testing.T) {
	a, b := rows.Mixed(30, 3), rows.Mixed(70, 4)
	for kind := range kinds {
		for _, n := range sizes {
			expectSum(t, "P9.1: Sum of a, b", kind, n, chain.Sum(kind, n, a, b), append(bytes.Clone(a), b...))
			expectSum(t, "P9.1: Sum of b, a", kind, n, chain.Sum(kind, n, b, a), append(bytes.Clone(b), a...))
			expectSum(t, "P9.1: Sum of a, a", kind, n, chain.Sum(kind, n, a, a), append(bytes.Clone(a), a...))
		}
	}
}

// P9.1: nothing of kinds and sizes that there aren't, of Sum and Part.
func TestNoKindNoSize(t *testing.T) {
	refused := func(kind, n int) {
		for _, texts := range [][][]byte{nil, {nil}, {rows.Mixed(50, 5)}, {[]byte("a"), []byte("b")}} {
			nothing(t, chain.Sum(kind, n, texts...), "P9.1: Sum, kind, size", kind, n)
			nothing(t, chain.Part(kind, n, name, 1, 2, texts...), "P9.1: Part, kind, size", kind, n)
		}
	}
	for _, kind := range noKinds {
		for _, n := range append(noSizes, sizes...) {
			refused(kind, n)
		}
	}
	for kind := range kinds {
		for _, n := range noSizes {
			refused(kind, n)
		}
		for n := -100; n < 1000; n++ {
			if !slices.Contains(sizes, n) {
				refused(kind, n)
			}
		}
	}
}

// P9.1: sums of parts, with places and words at their edges, and with texts of any number and length.
func TestPart(t *testing.T) {
	long := rows.Mixed(api.MaxText+1, 6)
	many := parted(rows.Mixed(700, 7), func(int) int { return 3 })
	for kind := range kinds {
		for _, n := range sizes {
			for _, q := range rows.Places() {
				for _, d := range rows.Words() {
					for _, texts := range [][][]byte{nil, {}, {nil}, {nil, {}}, {[]byte("a")}, {[]byte("a"), nil, []byte("bc")}, many} {
						expectSum(t, "P9.1: Part", kind, n, chain.Part(kind, n, name, q, d, texts...), partText(name, q, d, texts...))
					}
				}
			}
			expectSum(t, "P9.1: Part of a long text", kind, n, chain.Part(kind, n, name, 258, 0x8181, long), partText(name, 258, 0x8181, long))
			expectSum(t, "P9.1: Part of no text", kind, n, chain.Part(kind, n, name, 1, 2), partText(name, 1, 2))
		}
	}
}

// P9.1: texts of every length up to some blocks, in one and in many.
func TestPartLengths(t *testing.T) {
	for kind := range kinds {
		for _, n := range sizes {
			for length := range 290 {
				b := rows.Mixed(length, 8)
				want := partText(name, 0x1020304, 0x506, b)
				expectSum(t, "P9.1: Part of one text", kind, n, chain.Part(kind, n, name, 0x1020304, 0x506, b), want)
				expectSum(t, "P9.1: Part of many texts", kind, n, chain.Part(kind, n, name, 0x1020304, 0x506, parted(b, func(i int) int { return i })...), want)
			}
		}
	}
}

// P9.1, P9.2: a name has 16 bytes, whichever; nothing of any other length.
func TestNames(t *testing.T) {
	lengths := []int{256, 256 + 16, 1 << 16, 1<<16 + 16}
	for n := range 80 {
		lengths = append(lengths, n)
	}
	for _, o := range rows.Sets() {
		x := rows.Mixed(o.N, 9)
		for _, length := range lengths {
			for _, nm := range [][]byte{rows.Guarded(rows.Mixed(length, 10)), make([]byte, length), bytes.Repeat([]byte{255}, length)} {
				part, step, up, still := chain.Part(o.Kind, o.N, nm, 1, 2, x), chain.Step(o, nm, 1, 2, 0, x), chain.Up(o, nm, 1, 2, 0, 1, x), chain.Up(o, nm, 1, 2, 0, 0, x)
				if length != 16 {
					for _, got := range [][]byte{part, step, up, still} {
						nothing(t, got, "P9.1, P9.2: a name of bytes", length)
					}
					continue
				}
				expectSum(t, "P9.1: Part, by its name", o.Kind, o.N, part, partText(nm, 1, 2, x))
				expectSum(t, "P9.2: Step, by its name", o.Kind, o.N, step, stepText(nm, 1, 2, 0, x))
				expectSum(t, "P9.2: Up, by its name", o.Kind, o.N, up, stepText(nm, 1, 2, 0, x))
				expect(t, "P9.2: Up, no step, by its name", still, x)
			}
		}
		nothing(t, chain.Part(o.Kind, o.N, nil, 1, 2, x), "P9.1: no name")
		nothing(t, chain.Step(o, nil, 1, 2, 0, x), "P9.2: no name")
		nothing(t, chain.Up(o, nil, 1, 2, 0, 1, x), "P9.2: no name")
	}
}

// expectStep tells where a step isn't the sum of its part.
func expectStep(t *testing.T, o api.Ots, q uint32, i, j int, x []byte) {
	t.Helper()
	got := chain.Step(o, name, q, i, j, x)
	expectSum(t, "P9.2: Step", o.Kind, o.N, got, stepText(name, q, i, j, x))
	expect(t, "P9.2: Step, by its part", got, chain.Part(o.Kind, o.N, name, q, uint16(i), []byte{byte(j)}, x))
}

// P9.2: steps of every set, of all its chains, at all j: beyond what its width allows, too.
func TestStep(t *testing.T) {
	for _, o := range rows.Sets() {
		x := rows.Mixed(o.N, 11)
		for i := range o.P {
			for _, j := range []int{0, 1, 1 << o.W / 2, 1<<o.W - 1, 255} {
				expectStep(t, o, 258, i, j, x)
			}
		}
		for j := range 256 {
			for _, i := range []int{0, 1, o.P / 2, o.P - 2, o.P - 1} {
				expectStep(t, o, 258, i, j, x)
			}
		}
		for _, q := range rows.Places() {
			for _, x := range [][]byte{make([]byte, o.N), bytes.Repeat([]byte{255}, o.N), rows.Guarded(rows.Mixed(o.N, 12))} {
				expectStep(t, o, q, o.P-1, 255, x)
			}
		}
	}
}

// P9.2: nothing of what is no set.
func TestNoSet(t *testing.T) {
	for _, o := range rows.NoSets() {
		for _, n := range []int{0, 23, 24, 25, 32, 33} {
			x := rows.Mixed(n, 13)
			nothing(t, chain.Step(o, name, 1, 0, 0, x), "P9.2: Step, no set", o)
			nothing(t, chain.Up(o, name, 1, 0, 0, 1, x), "P9.2: Up, no set", o)
			nothing(t, chain.Up(o, name, 1, 0, 0, 0, x), "P9.2: Up, no step, no set", o)
		}
	}
}

// P9.2: nothing of a chain that a set hasn't; something of its first and its last one.
func TestNoChain(t *testing.T) {
	for _, o := range rows.Sets() {
		x := rows.Mixed(o.N, 14)
		none := append([]int{-o.P, 1<<16 + o.P - 1, 1<<32 + o.P - 1, math.MinInt + o.P - 1}, far...)
		for i := range 300 {
			none = append(none, o.P+i, -1-i)
		}
		for _, i := range none {
			nothing(t, chain.Step(o, name, 1, i, 0, x), "P9.2: Step, set, chain", o.Code, i)
			nothing(t, chain.Up(o, name, 1, i, 0, 1, x), "P9.2: Up, set, chain", o.Code, i)
			nothing(t, chain.Up(o, name, 1, i, 0, 0, x), "P9.2: Up, no step, set, chain", o.Code, i)
		}
		for _, i := range []int{0, o.P - 1} {
			expectStep(t, o, 1, i, 0, x)
			expect(t, "P9.2: Up", chain.Up(o, name, 1, i, 0, 1, x), risen(o, name, 1, i, 0, 1, x))
		}
	}
}

// P9.2: nothing of a step at a j that isn't 0 to 255.
func TestNoStep(t *testing.T) {
	for _, o := range rows.Sets() {
		x := rows.Mixed(o.N, 15)
		none := slices.Clone(far)
		for j := range 300 {
			none = append(none, 256+j, -1-j)
		}
		for _, j := range none {
			nothing(t, chain.Step(o, name, 1, 0, j, x), "P9.2: Step, set, j", o.Code, j)
		}
	}
}

// P9.2: nothing of an x that hasn't N bytes.
func TestNoX(t *testing.T) {
	for _, o := range rows.Sets() {
		lengths := []int{256, 256 + o.N, 1<<16 + o.N}
		for n := range 100 {
			lengths = append(lengths, n)
		}
		for _, n := range lengths {
			if n == o.N {
				continue
			}
			for _, x := range [][]byte{rows.Mixed(n, 16), append(make([]byte, 0, n+o.N), rows.Mixed(n, 16)...)} {
				nothing(t, chain.Step(o, name, 1, 0, 0, x), "P9.2: Step, set, bytes of x", o.Code, n)
				nothing(t, chain.Up(o, name, 1, 0, 0, 1, x), "P9.2: Up, set, bytes of x", o.Code, n)
				nothing(t, chain.Up(o, name, 1, 0, 0, 0, x), "P9.2: Up, no step, set, bytes of x", o.Code, n)
			}
		}
		nothing(t, chain.Step(o, name, 1, 0, 0, nil), "P9.2: Step, no x, set", o.Code)
		nothing(t, chain.Up(o, name, 1, 0, 0, 0, nil), "P9.2: Up, no x, set", o.Code)
	}
}

// heights: 0 to 2^W - 1, of the greatest width but some of them.
func heights(o api.Ots) []int {
	if o.W == 8 {
		return []int{0, 1, 2, 3, 15, 16, 100, 127, 128, 253, 254, 255}
	}
	out := make([]int, 1<<o.W)
	for i := range out {
		out[i] = i
	}
	return out
}

// P9.2: x gone up by no step, by one, by some, by all, from each height to each other one above.
func TestUp(t *testing.T) {
	for _, o := range rows.Sets() {
		x := rows.Mixed(o.N, 17)
		for _, i := range []int{0, 1, o.P - 1} {
			for _, from := range heights(o) {
				for _, to := range heights(o) {
					if got := chain.Up(o, name, 258, i, from, to, x); from <= to {
						expect(t, "P9.2: Up", got, risen(o, name, 258, i, from, to, x))
					} else {
						nothing(t, got, "P9.2: Up, set, from, to", o.Code, from, to)
					}
				}
			}
		}
		for _, q := range rows.Places() {
			expect(t, "P9.2: Up, by its place", chain.Up(o, name, q, 1, 0, 1<<o.W-1, x), risen(o, name, q, 1, 0, 1<<o.W-1, x))
		}
		for i := range o.P {
			expect(t, "P9.2: Up, by its chain", chain.Up(o, name, 1, i, 0, 1, x), risen(o, name, 1, i, 0, 1, x))
		}
	}
}

// P9.2: gone up is stepped, each time of what the step ahead told.
func TestUpIsSteps(t *testing.T) {
	for _, o := range rows.Sets() {
		x := rows.Mixed(o.N, 18)
		y := bytes.Clone(x)
		for to := range 1 << o.W {
			expect(t, "P9.2: Up, by steps", chain.Up(o, name, 7, o.P-1, 0, to, x), y)
			y = chain.Step(o, name, 7, o.P-1, to, y)
		}
	}
}

// P9.2: nothing of what goes down, begins below 0, or ends above what the width allows.
func TestUpRefused(t *testing.T) {
	for _, o := range rows.Sets() {
		x := rows.Mixed(o.N, 19)
		most := 1<<o.W - 1
		froms := append([]int{0, 1, most - 1, most, most + 1}, far...)
		tos := append([]int{0, 1, most - 1, most, most + 1, most + 2, 254, 255, 256, 257, 256 + most, 1<<32 + most}, far...)
		for to := most + 1; to < 600; to++ {
			tos = append(tos, to)
		}
		for _, from := range froms {
			for _, to := range tos {
				if from < 0 || from > to || to > most {
					nothing(t, chain.Up(o, name, 1, 0, from, to, x), "P9.2: Up, set, from, to", o.Code, from, to)
				}
			}
		}
		for _, h := range far {
			nothing(t, chain.Up(o, name, 1, 0, h, h, x), "P9.2: Up, set, from and to", o.Code, h)
		}
		expect(t, "P9.2: Up, at the top", chain.Up(o, name, 1, 0, most, most, x), x)
		expect(t, "P9.2: Up, all", chain.Up(o, name, 1, 0, 0, most, x), risen(o, name, 1, 0, 0, most, x))
	}
}

// P9.3: gone up in two goes is gone up in one, of every set, by all heights a, b and c.
func TestTwoGoes(t *testing.T) {
	for _, o := range rows.Sets() {
		x := rows.Mixed(o.N, 20)
		for _, a := range heights(o) {
			for _, b := range heights(o) {
				if b < a {
					continue
				}
				below := chain.Up(o, name, 9, o.P-1, a, b, x)
				for _, c := range heights(o) {
					if c < b {
						continue
					}
					got, want := chain.Up(o, name, 9, o.P-1, b, c, below), chain.Up(o, name, 9, o.P-1, a, c, x)
					if len(got) != o.N || !bytes.Equal(got, want) {
						t.Errorf("P9.3: set %v, from %v to %v to %v: %x, in one go %x", o.Code, a, b, c, got, want)
					}
				}
			}
		}
	}
}

// P9.1, P9.2: a refused call leaves nothing behind.
func TestAfterRefused(t *testing.T) {
	for _, o := range rows.Sets() {
		x := rows.Mixed(o.N, 21)
		for range 3 {
			nothing(t, chain.Sum(2, o.N, x), "P9.1: no kind")
			expectSum(t, "P9.1: Sum, behind a refused one", o.Kind, o.N, chain.Sum(o.Kind, o.N, x), x)
			nothing(t, chain.Part(o.Kind, o.N, name[:15], 1, 2, x), "P9.1: no name")
			expectSum(t, "P9.1: Part, behind a refused one", o.Kind, o.N, chain.Part(o.Kind, o.N, name, 1, 2, x), partText(name, 1, 2, x))
			nothing(t, chain.Step(o, name, 1, o.P, 0, x), "P9.2: no chain")
			expectStep(t, o, 1, o.P-1, 0, x)
			nothing(t, chain.Up(o, name, 1, 0, 1, 0, x), "P9.2: down")
			expect(t, "P9.2: Up, behind a refused one", chain.Up(o, name, 1, 0, 0, 1, x), risen(o, name, 1, 0, 0, 1, x))
		}
	}
}

// P9.1, P9.2: what was handed in stays as it was, its spare room too, and isn't shared nor kept.
func TestKeepsApart(t *testing.T) {
	for _, o := range rows.Sets() {
		top := 1<<o.W - 1
		for what, call := range map[string]func(name, x []byte) []byte{
			"Sum":            func(name, x []byte) []byte { return chain.Sum(o.Kind, o.N, name, x) },
			"Sum, one part":  func(_, x []byte) []byte { return chain.Sum(o.Kind, o.N, x) },
			"Sum, no kind":   func(name, x []byte) []byte { return chain.Sum(2, o.N, name, x) },
			"Part":           func(name, x []byte) []byte { return chain.Part(o.Kind, o.N, name, 1, 2, x, name) },
			"Part, no text":  func(name, _ []byte) []byte { return chain.Part(o.Kind, o.N, name, 1, 2) },
			"Part, no size":  func(name, x []byte) []byte { return chain.Part(o.Kind, 16, name, 1, 2, x) },
			"Step":           func(name, x []byte) []byte { return chain.Step(o, name, 1, 2, 3, x) },
			"Step, no chain": func(name, x []byte) []byte { return chain.Step(o, name, 1, o.P, 3, x) },
			"Up, no step":    func(name, x []byte) []byte { return chain.Up(o, name, 1, 2, top, top, x) },
			"Up, one step":   func(name, x []byte) []byte { return chain.Up(o, name, 1, 2, 0, 1, x) },
			"Up, all":        func(name, x []byte) []byte { return chain.Up(o, name, 1, 2, 0, top, x) },
			"Up, too high":   func(name, x []byte) []byte { return chain.Up(o, name, 1, 2, 0, top+1, x) },
		} {
			apart(t, what, o, call)
		}
	}
}

// apart tells where a call changes its name or its x, or where its answer shares memory with them or with a later one.
func apart(t *testing.T, what string, o api.Ots, call func(name, x []byte) []byte) {
	t.Helper()
	how := rows.Apart(func(in [][]byte) []byte { return call(in[0], in[1]) }, rows.Mixed(16, 22), rows.Mixed(o.N, 23))
	if how != "" {
		t.Errorf("P9: %v, set %v: %v", what, o.Code, how)
	}
}

// P9.1: a list of parts stays as it was, its spare room too.
func TestListsStay(t *testing.T) {
	for what, call := range map[string]func(kind int, list [][]byte) []byte{
		"Sum":           func(kind int, list [][]byte) []byte { return chain.Sum(kind, 32, list...) },
		"Part":          func(kind int, list [][]byte) []byte { return chain.Part(kind, 32, name, 1, 2, list...) },
		"Part, no name": func(kind int, list [][]byte) []byte { return chain.Part(kind, 32, nil, 1, 2, list...) },
	} {
		for kind := range kinds {
			for n := range 4 {
				full := [][]byte{[]byte("a"), []byte("bc"), nil, []byte("def"), []byte("room"), []byte("more room")}
				was := slices.Clone(full)
				call(kind, full[:n])
				for i := range full {
					if !bytes.Equal(full[i], was[i]) {
						t.Errorf("P9.1: %v changed the place %v of a list of %v parts: %q, not %q", what, i, n, full[i], was[i])
					}
				}
			}
		}
	}
}

// P9.1, P9.2: a name and texts that share memory are taken as they stand, each up to its own end.
func TestShared(t *testing.T) {
	b := rows.Mixed(64, 24)
	for _, o := range rows.Sets() {
		nm, x := b[:16], b[8:8+o.N]
		expectSum(t, "P9.1: Sum, of parts that share memory", o.Kind, o.N, chain.Sum(o.Kind, o.N, nm, x), slices.Concat(nm, x))
		expectSum(t, "P9.1: Part, of a name within a text", o.Kind, o.N, chain.Part(o.Kind, o.N, nm, 1, 2, x, nm), partText(nm, 1, 2, x, nm))
		expectSum(t, "P9.2: Step, of a name within x", o.Kind, o.N, chain.Step(o, nm, 1, 2, 3, x), stepText(nm, 1, 2, 3, x))
		expect(t, "P9.2: Up, of a name within x", chain.Up(o, nm, 1, 2, 0, 1<<o.W-1, x), risen(o, nm, 1, 2, 0, 1<<o.W-1, x))
	}
	expect(t, "P9.1: what is shared", b, rows.Mixed(64, 24))
}
