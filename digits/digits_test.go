package digits_test

import (
	"bytes"
	"fmt"
	"math"
	"slices"
	"strconv"
	"strings"
	"testing"

	"tearoff/api"
	"tearoff/digits"
	"tearoff/rows"
)

// widths are those that there are.
var widths = []int{1, 2, 4, 8}

// none are numbers that are no width.
var none = []int{0, 3, 5, 6, 7, 9, 10, 12, 15, 16, 17, 24, 32, 63, 64, 65, 128, 255, 256, 257, 258, 260, 264, -1, -2, -4, -8, -16, -64, 1 << 31, 1<<32 + 1, 1<<32 + 4, 1<<32 + 8, math.MaxInt32, math.MinInt32, math.MaxInt, math.MinInt, math.MinInt + 1}

// outside are lengths of which there is no shape.
var outside = []int{0, 65, 66, 128, 256, 257, 1000, 8192, 8193, api.MaxText, 1 << 31, 1 << 32, 1<<32 + 1, math.MaxInt / 8, math.MaxInt/8 + 1, math.MaxInt, -1, -2, -32, -64, -65, math.MinInt32, math.MinInt, math.MinInt + 1, math.MinInt / 8, 1 << 61, 1<<61 + 1}

// known, knownLack, knownShape, knownAll: what Of, Lack, Shape and All must answer, by way of texts of noughts and ones.
func known(b []byte, w int) []int {
	var text strings.Builder
	for _, c := range b {
		fmt.Fprintf(&text, "%08b", c)
	}
	return cut(text.String(), w)
}

func knownLack(b []byte, w int) int {
	lack, most := 0, []int{1: 1, 2: 3, 4: 15, 8: 255}[w]
	for _, d := range known(b, w) {
		lack += most - d
	}
	return lack
}

func knownShape(n, w int) (int, int, int) {
	u, v := 0, 0
	for bit := 0; bit < 8*n; bit += w {
		u++
	}
	for most := knownLack(make([]byte, n), w); most > 0; most >>= w {
		v++
	}
	return u, v, 16 - v*w
}

func knownAll(b []byte, w int) []int {
	_, v, _ := knownShape(len(b), w)
	text := strconv.FormatInt(int64(knownLack(b, w)), 2)
	return append(known(b, w), cut(strings.Repeat("0", v*w-len(text))+text, w)...)
}

// cut: a text of noughts and ones as digits.
func cut(text string, w int) []int {
	out := []int{}
	for ; len(text) > 0; text = text[w:] {
		d, err := strconv.ParseUint(text[:w], 2, 8)
		if err != nil {
			panic(err)
		}
		out = append(out, int(d))
	}
	return out
}

// some: rows of that length, of several kinds.
func some(n int) [][]byte {
	out := [][]byte{make([]byte, n), bytes.Repeat([]byte{255}, n), bytes.Repeat([]byte{0x1b}, n), bytes.Repeat([]byte{0xa5}, n), bytes.Repeat([]byte{1}, n), bytes.Repeat([]byte{128}, n)}
	for i := range 4 {
		out = append(out, rows.Mixed(n, byte(n+60*i)))
	}
	return out
}

// expect tells where digits aren't those that they must be.
func expect(t *testing.T, what string, w int, b []byte, got, want []int) {
	t.Helper()
	if !slices.Equal(got, want) {
		t.Errorf("%s, width %v, %v bytes, %.64x: %v digits, %.700s, not %v, %.700s", what, w, len(b), b, len(got), fmt.Sprint(got), len(want), fmt.Sprint(want))
	}
}

// P7.1: May, of the widths that there are, and of none.
func TestMay(t *testing.T) {
	for _, w := range widths {
		if !digits.May(w) {
			t.Errorf("P7.1: May(%v): false", w)
		}
	}
	for _, w := range none {
		if digits.May(w) {
			t.Errorf("P7.1: May(%v): true", w)
		}
	}
	for w := -1000; w <= 70000; w++ {
		if got := digits.May(w); got != slices.Contains(widths, w) {
			t.Errorf("P7.1: May(%v): %v", w, got)
		}
	}
}

// P7.1: the digits, and what they lack, written out: the chapter's example first.
func TestWrittenOut(t *testing.T) {
	for _, c := range []struct {
		b    []byte
		w    int
		want []int
		lack int
	}{
		{[]byte{0x1f}, 4, []int{1, 15}, 14},
		{[]byte{0x1f}, 1, []int{0, 0, 0, 1, 1, 1, 1, 1}, 3},
		{[]byte{0x1f}, 2, []int{0, 1, 3, 3}, 5},
		{[]byte{0x1f}, 8, []int{31}, 224},
		{[]byte{0x12, 0x34}, 1, []int{0, 0, 0, 1, 0, 0, 1, 0, 0, 0, 1, 1, 0, 1, 0, 0}, 11},
		{[]byte{0x12, 0x34}, 2, []int{0, 1, 0, 2, 0, 3, 1, 0}, 17},
		{[]byte{0x12, 0x34}, 4, []int{1, 2, 3, 4}, 50},
		{[]byte{0x12, 0x34}, 8, []int{18, 52}, 440},
		{[]byte{0}, 1, []int{0, 0, 0, 0, 0, 0, 0, 0}, 8},
		{[]byte{0}, 2, []int{0, 0, 0, 0}, 12},
		{[]byte{0}, 4, []int{0, 0}, 30},
		{[]byte{0}, 8, []int{0}, 255},
		{[]byte{255}, 1, []int{1, 1, 1, 1, 1, 1, 1, 1}, 0},
		{[]byte{255}, 2, []int{3, 3, 3, 3}, 0},
		{[]byte{255}, 4, []int{15, 15}, 0},
		{[]byte{255}, 8, []int{255}, 0},
		{[]byte{0, 255, 128}, 1, []int{0, 0, 0, 0, 0, 0, 0, 0, 1, 1, 1, 1, 1, 1, 1, 1, 1, 0, 0, 0, 0, 0, 0, 0}, 15},
		{[]byte{0, 255, 128}, 2, []int{0, 0, 0, 0, 3, 3, 3, 3, 2, 0, 0, 0}, 22},
		{[]byte{0, 255, 128}, 4, []int{0, 0, 15, 15, 8, 0}, 52},
		{[]byte{0, 255, 128}, 8, []int{0, 255, 128}, 382},
	} {
		expect(t, "P7.1: Of", c.w, c.b, digits.Of(c.b, c.w), c.want)
		if got := digits.Lack(c.b, c.w); got != c.lack {
			t.Errorf("P7.1: Lack(%v, %v): %v, not %v", c.b, c.w, got, c.lack)
		}
	}
}

// P7.1: of every byte, alone and beside others.
func TestEveryByte(t *testing.T) {
	for _, w := range widths {
		for c := range 256 {
			for _, b := range [][]byte{{byte(c)}, {0, byte(c)}, {byte(c), 0}, {255, byte(c), 255}, {byte(c), ^byte(c), byte(c)}} {
				expect(t, "P7.1: Of", w, b, digits.Of(b, w), known(b, w))
				if got, want := digits.Lack(b, w), knownLack(b, w); got != want {
					t.Errorf("P7.1: Lack(%v, %v): %v, not %v", b, w, got, want)
				}
			}
		}
	}
}

// P7.1: of rows of every length, of a sum's and of other ones: there is no bound to a row.
func TestEveryLength(t *testing.T) {
	var all [][]byte
	for n := range 150 {
		all = append(all, some(n)...)
	}
	for _, n := range []int{1000, 4096, api.MaxText - 1, api.MaxText, api.MaxText + 1} {
		all = append(all, rows.Mixed(n, 29))
	}
	for _, w := range widths {
		for _, b := range all {
			expect(t, "P7.1: Of", w, b, digits.Of(b, w), known(b, w))
			if got, want := digits.Lack(b, w), knownLack(b, w); got != want {
				t.Errorf("P7.1: Lack, width %v, %v bytes: %v, not %v", w, len(b), got, want)
			}
		}
	}
}

// P7.1: rows lack more than numbers of 32 bits hold.
func TestLackMuch(t *testing.T) {
	b := make([]byte, 17<<20)
	for _, c := range []struct{ w, want int }{{1, 8 * 17 << 20}, {2, 12 * 17 << 20}, {4, 30 * 17 << 20}, {8, 255 * 17 << 20}} {
		if got := digits.Lack(b, c.w); got != c.want {
			t.Errorf("P7.1: Lack, width %v, %v bytes 0: %v, not %v", c.w, len(b), got, c.want)
		}
	}
}

// P7.1, P7.2: a row of no byte, nil or not, has no digits, lacks 0, and has not all digits.
func TestNoByte(t *testing.T) {
	for _, b := range [][]byte{nil, {}, rows.Guarded(nil)} {
		for _, w := range append(slices.Clone(widths), none...) {
			if of, lack, all := digits.Of(b, w), digits.Lack(b, w), digits.All(b, w); len(of) != 0 || lack != 0 || len(all) != 0 {
				t.Errorf("P7.1, P7.2: of no byte, width %v: %v, %v, %v", w, of, lack, all)
			}
		}
	}
}

// P7.1, P7.2: of no width there is nothing, whatever the rest.
func TestNoWidth(t *testing.T) {
	for _, w := range none {
		for _, n := range []int{1, 2, 3, 24, 32, 64, 65, 1000} {
			for _, b := range some(n) {
				if of, lack, all := digits.Of(b, w), digits.Lack(b, w), digits.All(b, w); len(of) != 0 || lack != 0 || len(all) != 0 {
					t.Errorf("P7.1, P7.2: width %v, %v bytes: %v digits, they lack %v, %v in all", w, n, len(of), lack, len(all))
				}
			}
		}
		for n := -10; n <= 200; n++ {
			noShape(t, n, w)
		}
		for _, n := range outside {
			noShape(t, n, w)
		}
	}
}

// noShape tells where there is a shape, and must be none.
func noShape(t *testing.T, n, w int) {
	t.Helper()
	if u, v, ls := digits.Shape(n, w); u != 0 || v != 0 || ls != 0 {
		t.Errorf("P7.2: Shape(%v, %v): %v, %v, %v, not 0, 0, 0", n, w, u, v, ls)
	}
}

// P7.2: shapes that are published, and some that are counted by hand, at the edges.
func TestShapeWrittenOut(t *testing.T) {
	for _, c := range []struct{ n, w, u, v, ls int }{
		{32, 1, 256, 9, 7}, {32, 2, 128, 5, 6}, {32, 4, 64, 3, 4}, {32, 8, 32, 2, 0},
		{24, 1, 192, 8, 8}, {24, 2, 96, 5, 6}, {24, 4, 48, 3, 4}, {24, 8, 24, 2, 0},
		{16, 4, 32, 3, 4}, {64, 4, 128, 3, 4},
		{1, 1, 8, 4, 12}, {1, 2, 4, 2, 12}, {1, 4, 2, 2, 8}, {1, 8, 1, 1, 8},
		{2, 8, 2, 2, 0}, {64, 1, 512, 10, 6}, {64, 2, 256, 5, 6}, {64, 8, 64, 2, 0},
		{31, 1, 248, 8, 8}, {63, 1, 504, 9, 7}, {21, 2, 84, 4, 8}, {22, 2, 88, 5, 6}, {8, 4, 16, 2, 8}, {9, 4, 18, 3, 4},
	} {
		if u, v, ls := digits.Shape(c.n, c.w); u != c.u || v != c.v || ls != c.ls {
			t.Errorf("P7.2: Shape(%v, %v): %v, %v, %v, not %v, %v, %v", c.n, c.w, u, v, ls, c.u, c.v, c.ls)
		}
	}
}

// P7.2: shapes of every length, with every width; none of other lengths.
func TestShapes(t *testing.T) {
	for _, w := range widths {
		for n := 1; n <= 64; n++ {
			u, v, ls := digits.Shape(n, w)
			if wantU, wantV, wantLs := knownShape(n, w); u != wantU || v != wantV || ls != wantLs {
				t.Errorf("P7.2: Shape(%v, %v): %v, %v, %v, not %v, %v, %v", n, w, u, v, ls, wantU, wantV, wantLs)
			}
		}
		for n := 65; n <= 1000; n++ {
			noShape(t, n, w)
			noShape(t, 64-n, w)
		}
		for _, n := range outside {
			noShape(t, n, w)
		}
	}
}

// P7.2: all digits, written out.
func TestAllWrittenOut(t *testing.T) {
	for _, c := range []struct {
		b    []byte
		w    int
		want []int
	}{
		{[]byte{0x1f}, 1, []int{0, 0, 0, 1, 1, 1, 1, 1, 0, 0, 1, 1}},
		{[]byte{0x1f}, 2, []int{0, 1, 3, 3, 1, 1}},
		{[]byte{0x1f}, 4, []int{1, 15, 0, 14}},
		{[]byte{0x1f}, 8, []int{31, 224}},
		{[]byte{0}, 1, []int{0, 0, 0, 0, 0, 0, 0, 0, 1, 0, 0, 0}},
		{[]byte{0}, 2, []int{0, 0, 0, 0, 3, 0}},
		{[]byte{0}, 4, []int{0, 0, 1, 14}},
		{[]byte{0}, 8, []int{0, 255}},
		{[]byte{255}, 1, []int{1, 1, 1, 1, 1, 1, 1, 1, 0, 0, 0, 0}},
		{[]byte{255}, 2, []int{3, 3, 3, 3, 0, 0}},
		{[]byte{255}, 4, []int{15, 15, 0, 0}},
		{[]byte{255}, 8, []int{255, 0}},
		{[]byte{0x12, 0x34}, 2, []int{0, 1, 0, 2, 0, 3, 1, 0, 1, 0, 1}},
		{[]byte{0x12, 0x34}, 4, []int{1, 2, 3, 4, 3, 2}},
		{[]byte{0x12, 0x34}, 8, []int{18, 52, 1, 184}},
		{make([]byte, 32), 8, append(make([]int, 32), 31, 224)},
		{make([]byte, 32), 4, append(make([]int, 64), 3, 12, 0)},
		{make([]byte, 32), 2, append(make([]int, 128), 1, 2, 0, 0, 0)},
		{make([]byte, 32), 1, append(make([]int, 256), 1, 0, 0, 0, 0, 0, 0, 0, 0)},
		{make([]byte, 24), 8, append(make([]int, 24), 23, 232)},
		{make([]byte, 24), 1, append(make([]int, 192), 1, 1, 0, 0, 0, 0, 0, 0)},
		{make([]byte, 64), 8, append(make([]int, 64), 63, 192)},
		{make([]byte, 64), 4, append(make([]int, 128), 7, 8, 0)},
		{make([]byte, 64), 2, append(make([]int, 256), 3, 0, 0, 0, 0)},
		{make([]byte, 64), 1, append(make([]int, 512), 1, 0, 0, 0, 0, 0, 0, 0, 0, 0)},
	} {
		expect(t, "P7.2: All", c.w, c.b, digits.All(c.b, c.w), c.want)
	}
}

// P7.2: all digits of rows of every length, those of 1, 24, 32 and 64 bytes among them.
func TestAllLengths(t *testing.T) {
	for _, w := range widths {
		for n := 1; n <= 64; n++ {
			for _, b := range some(n) {
				expect(t, "P7.2: All", w, b, digits.All(b, w), knownAll(b, w))
			}
		}
	}
}

// P7.2: all digits of rows that lack ever less, from all down to none, byte by byte and bit by bit.
func TestAllLacks(t *testing.T) {
	for _, w := range widths {
		for _, n := range []int{1, 2, 24, 32, 63, 64} {
			b := make([]byte, n)
			for i := range 8 * n {
				b[i/8] |= 128 >> (i % 8)
				expect(t, "P7.2: All", w, b, digits.All(b, w), knownAll(b, w))
			}
		}
	}
}

// P7.2: all digits are as many as the shape tells; they are those of the row, and then what it lacks, as a number.
func TestAllFitsShape(t *testing.T) {
	for _, w := range widths {
		for n := 1; n <= 64; n++ {
			for _, b := range some(n) {
				all := digits.All(b, w)
				u, v, _ := digits.Shape(n, w)
				if len(all) != u+v {
					t.Fatalf("P7.2: All, width %v, %v bytes: %v digits, not %v", w, n, len(all), u+v)
				}
				lack := 0
				for _, d := range all[u:] {
					lack = lack<<w + d
				}
				if !slices.Equal(all[:u], digits.Of(b, w)) || lack != digits.Lack(b, w) {
					t.Errorf("P7.2: All, width %v, %x: %v, they lack %v, not %v", w, b, all, lack, digits.Lack(b, w))
				}
			}
		}
	}
}

// P7.2: nothing, of a row that hasn't 1 to 64 bytes.
func TestAllRefused(t *testing.T) {
	for _, w := range widths {
		for _, n := range []int{0, 65, 66, 100, 128, 256, 257, 1000, api.MaxText, api.MaxText + 1} {
			for _, b := range some(n) {
				if got := digits.All(b, w); len(got) != 0 {
					t.Errorf("P7.2: All, width %v, %v bytes: %v digits, not nothing", w, n, len(got))
				}
			}
		}
	}
}

// crossed tells where of two unlike rows no digit of all of the first is less than that of the second, or none the other way.
func crossed(t *testing.T, a, b []byte, w int) {
	t.Helper()
	x, y := digits.All(a, w), digits.All(b, w)
	if len(x) == 0 || len(x) != len(y) {
		t.Fatalf("P7.3: width %v: %v digits of %x, %v of %x", w, len(x), a, len(y), b)
	}
	less, greater := false, false
	for i := range x {
		less, greater = less || x[i] < y[i], greater || x[i] > y[i]
	}
	if !less || !greater {
		t.Errorf("P7.3: width %v: %x and %x: some digit less: %v, some greater: %v", w, a, b, less, greater)
	}
}

// P7.3: of every two unlike bytes, and of those between like ones.
func TestCrossedBytes(t *testing.T) {
	for _, w := range widths {
		for i := range 256 {
			for j := range i {
				crossed(t, []byte{byte(i)}, []byte{byte(j)}, w)
				crossed(t, []byte{7, byte(i), 200}, []byte{7, byte(j), 200}, w)
			}
		}
	}
}

// P7.3: of two unlike rows of every length: those that lack all and nothing, that are unlike in one bit, and any.
func TestCrossedRows(t *testing.T) {
	for _, w := range widths {
		for n := 1; n <= 64; n++ {
			all := some(n)
			for i, a := range all {
				for _, b := range all[:i] {
					if !bytes.Equal(a, b) {
						crossed(t, a, b, w)
					}
				}
			}
			for bit := range 8 * n {
				b := rows.Mixed(n, 28)
				b[bit/8] ^= 1 << (bit % 8)
				crossed(t, rows.Mixed(n, 28), b, w)
			}
		}
	}
}

// P7.3: of two rows that lack the same, but elsewhere; and of two, all of whose digits are greater in one than in the other.
func TestCrossedAlike(t *testing.T) {
	for _, w := range widths {
		for n := 1; n <= 64; n++ {
			low, high := make([]byte, n), bytes.Repeat([]byte{255}, n)
			crossed(t, low, high, w)
			for i := range n {
				one := bytes.Clone(low)
				one[i] = 1
				crossed(t, low, one, w)
				crossed(t, one, high, w)
				two := bytes.Clone(low)
				two[(i+1)%n] = 1
				if n > 1 {
					crossed(t, one, two, w)
				}
			}
		}
	}
}

// P7.1, P7.2: what was handed in stays as it was, its spare room too, and nothing hangs on that.
func TestKeepsApart(t *testing.T) {
	for _, w := range append(slices.Clone(widths), 0, 3, -1) {
		for _, n := range []int{0, 1, 2, 24, 32, 63, 64, 65, 200} {
			row := rows.Mixed(n, 30)
			b := rows.Guarded(row)
			was := rows.Full(b)
			of, lack, all := digits.Of(b, w), digits.Lack(b, w), digits.All(b, w)
			if rows.Full(b) != was {
				t.Errorf("P7.1, P7.2: width %v: a row of %v bytes was changed", w, n)
			}
			expect(t, "P7.1: Of, with spare room", w, b, of, digits.Of(row, w))
			expect(t, "P7.2: All, with spare room", w, b, all, digits.All(row, w))
			if want := digits.Lack(row, w); lack != want {
				t.Errorf("P7.1: Lack, with spare room, width %v, %v bytes: %v, not %v", w, n, lack, want)
			}
			keptOf, keptAll := slices.Clone(of), slices.Clone(all)
			rows.Flip(b[:cap(b)])
			digits.Of(b, w)
			digits.All(b, w)
			expect(t, "P7.1: Of, whose row was written over", w, row, of, keptOf)
			expect(t, "P7.2: All, whose row was written over", w, row, all, keptAll)
		}
	}
}

// P7.1, P7.2: each answer has memory of its own, spare room too.
func TestAnswersApart(t *testing.T) {
	for _, w := range widths {
		for _, n := range []int{1, 2, 24, 32, 64} {
			b := rows.Mixed(n, 40)
			for name, call := range map[string]func([]byte, int) []int{"Of": digits.Of, "All": digits.All} {
				got, again := call(b, w), call(b, w)
				want := slices.Clone(got)
				for i := range again[:cap(again)] {
					again[:cap(again)][i] = -1
				}
				expect(t, "P7.1, P7.2: "+name+", beside an answer that was written over", w, b, got, want)
				expect(t, "P7.1, P7.2: "+name+", behind an answer that was written over", w, b, call(b, w), want)
			}
		}
	}
}
