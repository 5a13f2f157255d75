package octet_test

import (
	"bytes"
	"math"
	"testing"

	"tearoff/api"
	"tearoff/octet"
	"tearoff/rows"
)

// count: the bytes 1, 2, 3 and so on, n of them.
func count(n int) []byte {
	out := make([]byte, n)
	for i := range out {
		out[i] = byte(i + 1)
	}
	return out
}

// P1.1: Put.
func TestPut(t *testing.T) {
	for _, c := range []struct {
		v    uint64
		n    int
		want []byte
	}{
		{258, 3, []byte{0, 1, 2}},
		{258, 2, []byte{1, 2}},
		{258, 1, []byte{2}},
		{258, 0, nil},
		{0, 0, nil},
		{0, 1, []byte{0}},
		{0, 8, []byte{0, 0, 0, 0, 0, 0, 0, 0}},
		{255, 1, []byte{255}},
		{256, 1, []byte{0}},
		{0x0102030405060708, 8, []byte{1, 2, 3, 4, 5, 6, 7, 8}},
		{0x0102030405060708, 7, []byte{2, 3, 4, 5, 6, 7, 8}},
		{0x0102030405060708, 6, []byte{3, 4, 5, 6, 7, 8}},
		{0x0102030405060708, 5, []byte{4, 5, 6, 7, 8}},
		{0x0102030405060708, 4, []byte{5, 6, 7, 8}},
		{math.MaxUint64, 8, bytes.Repeat([]byte{255}, 8)},
		{1 << 63, 8, []byte{128, 0, 0, 0, 0, 0, 0, 0}},
		{5, 9, nil},
		{5, 10, nil},
		{5, -1, nil},
		{5, math.MaxInt, nil},
		{5, math.MinInt, nil},
	} {
		if got := octet.Put(c.v, c.n); !bytes.Equal(got, c.want) {
			t.Errorf("P1.1: Put(%v, %v): %v, not %v", c.v, c.n, got, c.want)
		}
	}
}

// P1.1: Get.
func TestGet(t *testing.T) {
	for _, c := range []struct {
		b    []byte
		want uint64
		ok   bool
	}{
		{nil, 0, true},
		{[]byte{}, 0, true},
		{[]byte{0}, 0, true},
		{[]byte{7}, 7, true},
		{[]byte{1, 2}, 258, true},
		{[]byte{0, 1, 2}, 258, true},
		{[]byte{1, 0, 0}, 65536, true},
		{count(8), 0x0102030405060708, true},
		{bytes.Repeat([]byte{255}, 8), math.MaxUint64, true},
		{[]byte{128, 0, 0, 0, 0, 0, 0, 0}, 1 << 63, true},
		{make([]byte, 9), 0, false},
		{count(9), 0, false},
		{count(1000), 0, false},
	} {
		if got, ok := octet.Get(c.b); got != c.want || ok != c.ok {
			t.Errorf("P1.1: Get(%v): %v, %v, not %v, %v", c.b, got, ok, c.want, c.ok)
		}
	}
}

// P1.1: Cat.
func TestCat(t *testing.T) {
	for _, c := range []struct {
		parts [][]byte
		want  string
	}{
		{nil, ""},
		{[][]byte{}, ""},
		{[][]byte{nil}, ""},
		{[][]byte{nil, {}, nil}, ""},
		{[][]byte{[]byte("a")}, "a"},
		{[][]byte{[]byte("ab"), nil, []byte("c"), []byte("def"), nil}, "abcdef"},
		{[][]byte{[]byte("b"), []byte("a"), []byte("b")}, "bab"},
	} {
		if got := octet.Cat(c.parts...); string(got) != c.want {
			t.Errorf("P1.1: Cat(%q): %q, not %q", c.parts, got, c.want)
		}
	}
	if got := octet.Cat(); len(got) != 0 {
		t.Errorf("P1.1: Cat(): %q", got)
	}
}

// P1.1: Cat answers in memory of its own, and leaves what it is handed as it is.
func TestCatKeepsApart(t *testing.T) {
	for _, other := range []string{"", "yz"} {
		a, b := rows.Guarded([]byte("abc")), rows.Guarded([]byte(other))
		got := octet.Cat(a, b)
		if rows.Full(a) != "abcroom" || rows.Full(b) != other+"room" {
			t.Errorf("P1.1: Cat wrote over its arguments: %q, %q", rows.Full(a), rows.Full(b))
		}
		rows.Flip(a)
		rows.Flip(b)
		if string(got) != "abc"+other {
			t.Errorf("P1.1: Cat's answer hangs on its arguments: %q", got)
		}
		rows.Flip(a)
		rows.Flip(got)
		if rows.Full(a) != "abcroom" {
			t.Errorf("P1.1: Cat's argument hangs on its answer: %q", rows.Full(a))
		}
		_ = append(got, "spare"...)
		if rows.Full(a) != "abcroom" {
			t.Errorf("P1.1: Cat's answer has the spare room of its argument: %q", rows.Full(a))
		}
	}
	part := rows.Guarded([]byte("one"))
	if got := octet.Cat(part); &got[0] == &part[0] {
		t.Error("P1.1: Cat of one part is that part")
	}
	parts := [][]byte{[]byte("x"), []byte("y")}
	octet.Cat(parts...)
	if len(parts) != 2 || string(parts[0]) != "x" || string(parts[1]) != "y" {
		t.Errorf("P1.1: Cat changed the list of parts: %q", parts)
	}
}

// P1.1: Fill.
func TestFill(t *testing.T) {
	for _, c := range []struct {
		c    byte
		n    int
		want int
	}{
		{0, 0, 0},
		{7, 1, 1},
		{0, 3, 3},
		{255, 300, 300},
		{9, api.MaxText - 1, api.MaxText - 1},
		{9, api.MaxText, api.MaxText},
		{9, api.MaxText + 1, 0},
		{9, math.MaxInt, 0},
		{9, -1, 0},
		{9, math.MinInt, 0},
	} {
		if got := octet.Fill(c.c, c.n); !bytes.Equal(got, bytes.Repeat([]byte{c.c}, c.want)) {
			t.Errorf("P1.1: Fill(%v, %v): %v bytes, not %v of them", c.c, c.n, len(got), c.want)
		}
	}
	a := octet.Fill(1, 4)
	rows.Flip(a)
	if got := octet.Fill(1, 4); !bytes.Equal(got, []byte{1, 1, 1, 1}) {
		t.Errorf("P1.1: Fill hangs on what it answered ahead: %v", got)
	}
}

// P1.2: Same.
func TestSame(t *testing.T) {
	for _, c := range []struct {
		a, b []byte
		want bool
	}{
		{nil, nil, true},
		{nil, []byte{}, true},
		{[]byte{}, nil, true},
		{nil, []byte{0}, false},
		{[]byte{0}, nil, false},
		{[]byte{1, 2, 3}, []byte{1, 2, 3}, true},
		{[]byte{1, 2, 3}, []byte{1, 2}, false},
		{[]byte{1, 2}, []byte{1, 2, 3}, false},
		{[]byte{1, 2, 3}, []byte{0, 2, 3}, false},
		{[]byte{1, 2, 3}, []byte{1, 0, 3}, false},
		{[]byte{1, 2, 3}, []byte{1, 2, 0}, false},
		{[]byte{1, 2}, []byte{2, 1}, false},
		{count(500), count(500), true},
		{rows.Guarded([]byte("abc")), []byte("abc"), true},
		{rows.Guarded([]byte("abc")), []byte("abcr"), false},
	} {
		if got := octet.Same(c.a, c.b); got != c.want {
			t.Errorf("P1.2: Same(%v, %v): %v", c.a, c.b, got)
		}
	}
}

// P1.2: Xor.
func TestXor(t *testing.T) {
	for _, c := range []struct {
		a, b, want []byte
	}{
		{nil, nil, nil},
		{nil, []byte{1}, nil},
		{[]byte{1}, nil, nil},
		{[]byte{1, 2, 3}, []byte{3, 3}, []byte{2, 1}},
		{[]byte{3, 3}, []byte{1, 2, 3}, []byte{2, 1}},
		{[]byte{1, 2, 3}, []byte{1, 2, 3}, []byte{0, 0, 0}},
		{[]byte{240, 15, 255}, []byte{15, 15, 0}, []byte{255, 0, 255}},
	} {
		a, b := rows.Guarded(c.a), rows.Guarded(c.b)
		got := octet.Xor(a, b)
		if !bytes.Equal(got, c.want) {
			t.Errorf("P1.2: Xor(%v, %v): %v, not %v", c.a, c.b, got, c.want)
		}
		rows.Flip(got[:cap(got)])
		if rows.Full(a) != string(c.a)+"room" || rows.Full(b) != string(c.b)+"room" {
			t.Errorf("P1.2: Xor(%v, %v) shares its arguments: %q, %q", c.a, c.b, rows.Full(a), rows.Full(b))
		}
	}
}

// P1.2: Cut, what it answers.
func TestCut(t *testing.T) {
	for _, c := range []struct {
		b     string
		sizes []int
		want  []string
	}{
		{"", nil, nil},
		{"", []int{0}, []string{""}},
		{"", []int{0, 0, 0}, []string{"", "", ""}},
		{"abcd", []int{4}, []string{"abcd"}},
		{"abcd", []int{1, 0, 3}, []string{"a", "", "bcd"}},
		{"abcd", []int{0, 4, 0}, []string{"", "abcd", ""}},
		{"abcd", []int{3, 1}, []string{"abc", "d"}},
		{"abcd", []int{1, 1, 1, 1}, []string{"a", "b", "c", "d"}},
	} {
		got, e := octet.Cut([]byte(c.b), c.sizes...)
		if e != api.OK || len(got) != len(c.want) {
			t.Errorf("P1.2: Cut(%q, %v): %q, %v", c.b, c.sizes, got, e)
			continue
		}
		for i, w := range c.want {
			if string(got[i]) != w {
				t.Errorf("P1.2: Cut(%q, %v): part %v is %q, not %q", c.b, c.sizes, i, got[i], w)
			}
		}
	}
}

// P1.2: Cut, what it refuses, the size that is named first telling the code.
func TestCutRefuses(t *testing.T) {
	for _, c := range []struct {
		b     string
		sizes []int
		want  api.Code
	}{
		{"abcd", []int{-1}, api.Arg},
		{"abcd", []int{1, -1}, api.Arg},
		{"abcd", []int{4, -1}, api.Arg},
		{"abcd", []int{4, math.MinInt}, api.Arg},
		{"abcd", []int{-1, 5}, api.Arg},
		{"abcd", []int{-1, 4}, api.Arg},
		{"abcd", []int{1, -1, 3}, api.Arg},
		{"", []int{-1}, api.Arg},
		{"abcd", []int{5}, api.Short},
		{"abcd", []int{4, 1}, api.Short},
		{"abcd", []int{5, -1}, api.Short},
		{"abcd", []int{1, 4, -1}, api.Short},
		{"abcd", []int{5, -5, 4}, api.Short},
		{"abcd", []int{math.MaxInt}, api.Short},
		{"abcd", []int{1, math.MaxInt}, api.Short},
		{"abcd", []int{math.MaxInt, math.MaxInt}, api.Short},
		{"", []int{1}, api.Short},
		{"", []int{0, 1}, api.Short},
		{"abcd", nil, api.Length},
		{"abcd", []int{0}, api.Length},
		{"abcd", []int{1, 2}, api.Length},
		{"abcd", []int{3}, api.Length},
		{"a", nil, api.Length},
	} {
		if got, e := octet.Cut([]byte(c.b), c.sizes...); e != c.want || len(got) != 0 {
			t.Errorf("P1.2: Cut(%q, %v): %q, %v, not %v", c.b, c.sizes, got, e, c.want)
		}
	}
}

// P1.2: Cut doesn't look behind the end, where a row has spare room.
func TestCutSpareRoom(t *testing.T) {
	b := rows.Guarded([]byte("abcd"))
	if got, e := octet.Cut(b, 5); e != api.Short || len(got) != 0 {
		t.Errorf("P1.2: %q, %v", got, e)
	}
	if got, e := octet.Cut(b, 4, 1); e != api.Short || len(got) != 0 {
		t.Errorf("P1.2: %q, %v", got, e)
	}
}

// P1.2: each part has memory of its own, and what is handed in stays as it is.
func TestCutKeepsApart(t *testing.T) {
	b, sizes := rows.Guarded([]byte("abcdef")), []int{2, 0, 3, 1}
	got, e := octet.Cut(b, sizes...)
	if e != api.OK || len(got) != 4 {
		t.Fatalf("P1.2: %q, %v", got, e)
	}
	rows.Flip(b)
	if string(got[0]) != "ab" || string(got[2]) != "cde" || string(got[3]) != "f" {
		t.Errorf("P1.2: Cut's parts hang on its argument: %q", got)
	}
	rows.Flip(b)
	for _, p := range got {
		_ = append(p, "behind"...)
	}
	if string(got[0]) != "ab" || string(got[2]) != "cde" || string(got[3]) != "f" || rows.Full(b) != "abcdefroom" {
		t.Errorf("P1.2: a part has room in another one: %q, %q", got, rows.Full(b))
	}
	rows.Flip(got[2])
	if string(got[0]) != "ab" || string(got[3]) != "f" || rows.Full(b) != "abcdefroom" {
		t.Errorf("P1.2: a part shares memory: %q, %q", got, rows.Full(b))
	}
	if len(sizes) != 4 || sizes[0] != 2 || sizes[1] != 0 || sizes[2] != 3 || sizes[3] != 1 {
		t.Errorf("P1.2: Cut changed the sizes: %v", sizes)
	}
}

// P1.3: what is put is got again, if it fits; what doesn't fit is got modulo 256^n.
func TestPutAndGet(t *testing.T) {
	for shift := range 64 {
		for _, v := range []uint64{1 << shift, 1<<shift - 1, 1<<shift + 1, 0x9e3779b97f4a7c15 >> shift, math.MaxUint64 >> shift} {
			for n := range 9 {
				want := v
				if n < 8 {
					want = v % (1 << (8 * n))
				}
				b := octet.Put(v, n)
				if got, ok := octet.Get(b); len(b) != n || got != want || !ok {
					t.Errorf("P1.3: %v as %v bytes: %v, got again as %v, %v", v, n, b, got, ok)
				}
			}
		}
	}
}

// P1.3: bytes that are got are put again as they were.
func TestGetAndPut(t *testing.T) {
	for n := range 9 {
		b := count(n)
		v, ok := octet.Get(b)
		if got := octet.Put(v, n); !ok || !octet.Same(got, b) {
			t.Errorf("P1.3: %v is %v, put again as %v", b, v, got)
		}
	}
}

// P1.3: what is cut is all of it, put together, however it is cut in three.
func TestCutAndCat(t *testing.T) {
	for n := range 12 {
		b := count(n)
		for i := range n + 1 {
			for j := range n - i + 1 {
				l, e := octet.Cut(b, i, j, n-i-j)
				if e != api.OK || len(l) != 3 || !octet.Same(octet.Cat(l...), b) {
					t.Errorf("P1.3: %v of %v, %v, %v: %v, %v", b, i, j, n-i-j, l, e)
				}
				if len(l) == 3 && (len(l[0]) != i || len(l[1]) != j) {
					t.Errorf("P1.3: %v of %v, %v: %v", b, i, j, l)
				}
			}
		}
	}
}

// P1.3: likewise of a long row in many parts.
func TestCutAndCatMany(t *testing.T) {
	sizes, n := []int{}, 0
	for i := range 300 {
		sizes = append(sizes, i%7)
		n += i % 7
	}
	b := count(n)
	l, e := octet.Cut(b, sizes...)
	if e != api.OK || len(l) != len(sizes) || !octet.Same(octet.Cat(l...), b) {
		t.Errorf("P1.3: %v parts, %v", len(l), e)
	}
}
