package fors_test

import (
	"bytes"
	"fmt"
	"math"
	"slices"
	"strings"
	"testing"

	"tearoff/api"
	"tearoff/fors"
	"tearoff/rows"
)

// P17.1: the chapter's example: of K 2, A 3 the byte 0xb4 has the digits 5, 5.
func TestExample(t *testing.T) {
	f := api.Few{N: 16, Layers: 1, Height: 1, K: 2, A: 3}
	if got := fors.Digits(f, []byte{0xb4}); !slices.Equal(got, []uint32{5, 5}) {
		t.Errorf("P17.1: Digits: %v, not 5, 5", got)
	}
}

// mayBe: whether a set may be, told by what stands in lists.
func mayBe(f api.Few) bool {
	if !slices.Contains([]int{16, 24, 32}, f.N) || f.Height < 1 || f.Height > len(rows.MostLayers()) {
		return false
	}
	return f.Layers > 0 && f.Layers <= rows.MostLayers()[f.Height-1] && f.K > 0 && f.K < 41 && f.A > 0 && f.A < 15
}

// P17.1: May, of all numbers near those that may be, each beside each other one.
func TestMay(t *testing.T) {
	count := 0
	for n := range 40 {
		for layers := range 26 {
			for height := range 13 {
				for k := range 44 {
					for a := range 18 {
						f := api.Few{N: n, Layers: layers, Height: height, K: k, A: a}
						if got := fors.May(f); got != mayBe(f) {
							t.Fatalf("P17.1: May, %v: %v", f, got)
						}
						if mayBe(f) {
							count++
						}
					}
				}
			}
		}
	}
	if want := 3 * (22 + 22 + 22 + 16 + 13 + 11 + 10 + 8 + 8) * 40 * 14; count != want {
		t.Errorf("P17.1: May: %v sets, not %v", count, want)
	}
}

// P17.1: May at each edge, written out.
func TestMayEdges(t *testing.T) {
	for _, c := range []struct {
		f    api.Few
		want bool
	}{
		{api.Few{N: 15, Layers: 1, Height: 1, K: 1, A: 1}, false},
		{api.Few{N: 16, Layers: 1, Height: 1, K: 1, A: 1}, true},
		{api.Few{N: 17, Layers: 1, Height: 1, K: 1, A: 1}, false},
		{api.Few{N: 24, Layers: 1, Height: 1, K: 1, A: 1}, true},
		{api.Few{N: 32, Layers: 1, Height: 1, K: 1, A: 1}, true},
		{api.Few{N: 33, Layers: 1, Height: 1, K: 1, A: 1}, false},
		{api.Few{N: 16, Layers: 0, Height: 1, K: 1, A: 1}, false},
		{api.Few{N: 16, Layers: 22, Height: 1, K: 1, A: 1}, true},
		{api.Few{N: 16, Layers: 23, Height: 1, K: 1, A: 1}, false},
		{api.Few{N: 16, Layers: 1, Height: 0, K: 1, A: 1}, false},
		{api.Few{N: 16, Layers: 22, Height: 0, K: 1, A: 1}, false},
		{api.Few{N: 16, Layers: 1, Height: 9, K: 1, A: 1}, true},
		{api.Few{N: 16, Layers: 1, Height: 10, K: 1, A: 1}, false},
		{api.Few{N: 16, Layers: 8, Height: 9, K: 1, A: 1}, true},
		{api.Few{N: 16, Layers: 9, Height: 9, K: 1, A: 1}, false},
		{api.Few{N: 16, Layers: 10, Height: 7, K: 1, A: 1}, true},
		{api.Few{N: 16, Layers: 11, Height: 7, K: 1, A: 1}, false},
		{api.Few{N: 16, Layers: 22, Height: 3, K: 1, A: 1}, true},
		{api.Few{N: 16, Layers: 22, Height: 4, K: 1, A: 1}, false},
		{api.Few{N: 16, Layers: 17, Height: 4, K: 1, A: 1}, false},
		{api.Few{N: 16, Layers: 16, Height: 4, K: 1, A: 1}, true},
		{api.Few{N: 16, Layers: 9, Height: 8, K: 1, A: 1}, false},
		{api.Few{N: 16, Layers: 1, Height: 1, K: 0, A: 1}, false},
		{api.Few{N: 16, Layers: 1, Height: 1, K: 40, A: 1}, true},
		{api.Few{N: 16, Layers: 1, Height: 1, K: 41, A: 1}, false},
		{api.Few{N: 16, Layers: 1, Height: 1, K: 1, A: 0}, false},
		{api.Few{N: 16, Layers: 1, Height: 1, K: 1, A: 14}, true},
		{api.Few{N: 16, Layers: 1, Height: 1, K: 1, A: 15}, false},
		{api.Few{N: 32, Layers: 22, Height: 3, K: 40, A: 14}, true},
	} {
		if got := fors.May(c.f); got != c.want {
			t.Errorf("P17.1: May, %v: %v", c.f, got)
		}
	}
}

// P17.1: May of the greatest and the least numbers, and of others that are far, in each place alone and in two at once.
func TestMayFar(t *testing.T) {
	for _, f := range rows.NoFews() {
		if fors.May(f) || mayBe(f) {
			t.Errorf("P17.1: May, %v", f)
		}
	}
	for i := range 5 {
		for j := range 5 {
			for _, v := range rows.Far() {
				for _, w := range rows.Far() {
					f := base
					*rows.FewFields(&f)[i], *rows.FewFields(&f)[j] = v, w
					if fors.May(f) {
						t.Errorf("P17.1: May, %v", f)
					}
				}
			}
		}
	}
	for _, f := range append(append(few(), rows.HighFews()...), base, greatest) {
		if !fors.May(f) {
			t.Errorf("P17.1: not May, %v", f)
		}
	}
}

// P17.1: Made, of all heights of both kinds of trees, at 6 and 7 too.
func TestMade(t *testing.T) {
	for _, n := range []int{16, 24, 32} {
		for _, m := range rows.MaskedsOf(n) {
			for height := range 12 {
				for a := range 17 {
					for _, k := range []int{0, 1, 40, 41} {
						f := api.Few{N: n, Layers: 8, Height: height, K: k, A: a}
						want := mayBe(f) && height < 7 && a < 7
						if got := fors.Made(f, m); got != want {
							t.Errorf("P17.1: Made, %v: %v", f, got)
						}
					}
				}
			}
		}
	}
	for _, f := range append(few(), base, greatest) {
		if !fors.Made(f, rows.MaskedOf(f.N, 1)) {
			t.Errorf("P17.1: not Made, %v", f)
		}
	}
}

// P17.1: Made tells no of sets that may not be, and of those that are too high, whatever the secrets are.
func TestMadeNoSets(t *testing.T) {
	for _, f := range append(rows.NoFews(), rows.HighFews()...) {
		for _, n := range []int{0, 1, 8, 15, 16, 17, 24, 32, 33} {
			if fors.Made(f, rows.MaskedOf(n, 2)) {
				t.Errorf("P17.1: Made, %v, secrets of %v bytes", f, n)
			}
		}
		if f.N > 0 && f.N < 1<<17 && fors.Made(f, rows.MaskedOf(f.N, 2)) {
			t.Errorf("P17.1: Made, %v", f)
		}
	}
}

// P17.1: Made, of secrets one of which, or all, have a byte more or less, or any other length.
func TestMadeNoSecrets(t *testing.T) {
	for _, f := range append(few(), base, greatest) {
		for _, m := range rows.NoMaskedsOf(f.N) {
			if fors.Made(f, m) {
				t.Errorf("P17.1: Made, %v: %v, %v, %v bytes", f, len(m.Secret), len(m.Salt), len(m.Seed))
			}
		}
		for _, n := range []int{f.N - 1, f.N + 1} {
			for what, m := range rows.WithRow(rows.MaskedOf(f.N, 3), rows.Mixed(n, 4)) {
				if fors.Made(f, m) {
					t.Errorf("P17.1: Made, %v, %v of %v bytes", f, what, n)
				}
			}
		}
	}
}

// expectDigits tells where the digits aren't those that the letters of the bits tell, or aren't, put together, the first of these letters.
func expectDigits(t *testing.T, f api.Few, b []byte) {
	t.Helper()
	got := fors.Digits(f, b)
	if want := split(f, b); !slices.Equal(got, want) || len(got) != f.K {
		t.Errorf("P17.1: Digits, %v, of %x: %v, not %v", f, b, got, want)
	}
	var all strings.Builder
	for _, d := range got {
		fmt.Fprintf(&all, "%0*b", f.A, d)
	}
	if text := all.String(); len(text) != f.K*f.A || !strings.HasPrefix(rows.Bits(b), text) {
		t.Errorf("P17.1: Digits, %v, of %x: put together %v", f, b, text)
	}
}

// noDigits tells where there are digits that may not be.
func noDigits(t *testing.T, f api.Few, b []byte) {
	t.Helper()
	if got := fors.Digits(f, b); len(got) != 0 {
		t.Errorf("P17.1: Digits, %v, of %v bytes: %v", f, len(b), got)
	}
}

// P17.1: Digits of some bytes, written out: of digits within a byte, of whole bytes, and of such as go over one end or two.
func TestDigitsWrittenOut(t *testing.T) {
	for _, c := range []struct {
		k, a int
		b    []byte
		want []uint32
	}{
		{8, 1, []byte{0xb4}, []uint32{1, 0, 1, 1, 0, 1, 0, 0}},
		{1, 1, []byte{0x80}, []uint32{1}},
		{1, 1, []byte{0x7f}, []uint32{0}},
		{4, 2, []byte{0x1b}, []uint32{0, 1, 2, 3}},
		{3, 3, []byte{0xb4, 0x80}, []uint32{5, 5, 1}},
		{4, 4, []byte{0x12, 0x34}, []uint32{1, 2, 3, 4}},
		{3, 5, []byte{0x12, 0x34}, []uint32{2, 8, 26}},
		{2, 7, []byte{0x01, 0x02}, []uint32{0, 64}},
		{3, 8, []byte{1, 128, 255}, []uint32{1, 128, 255}},
		{1, 9, []byte{0x80, 0x80}, []uint32{257}},
		{1, 10, []byte{0xff, 0xc0}, []uint32{1023}},
		{2, 12, []byte{0x12, 0x34, 0x56}, []uint32{0x123, 0x456}},
		{1, 14, []byte{0x12, 0x34}, []uint32{0x48d}},
		{2, 14, []byte{0xff, 0xfd, 0x00, 0x10}, []uint32{0x3fff, 0x1001}},
	} {
		f := api.Few{N: 16, Layers: 1, Height: 1, K: c.k, A: c.a}
		if got := fors.Digits(f, c.b); !slices.Equal(got, c.want) {
			t.Errorf("P17.1: Digits, K %v, A %v, of %x: %v, not %v", c.k, c.a, c.b, got, c.want)
		}
	}
}

// P17.1: Digits, of each K and A: of just enough bytes, of more, and of too few.
func TestDigits(t *testing.T) {
	for k := 1; k <= 40; k++ {
		for a := 1; a <= 14; a++ {
			f := api.Few{N: 24, Layers: 3, Height: 2, K: k, A: a}
			for _, b := range enough(f, byte(k)) {
				expectDigits(t, f, b)
				expectDigits(t, f, append(slices.Clone(b), 255))
				expectDigits(t, f, append(slices.Clone(b), rows.Mixed(33, 5)...))
			}
			for _, b := range tooFew(f) {
				noDigits(t, f, b)
			}
		}
	}
	expectDigits(t, base, rows.Mixed(1<<20, 6))
}

// P17.1: each bit tells in its own digit, and none behind the last digit does: where K * A is no whole number of bytes, in the last byte.
func TestDigitsBits(t *testing.T) {
	for k := 1; k <= 40; k += 3 {
		for a := 1; a <= 14; a++ {
			f := api.Few{N: 16, Layers: 1, Height: 1, K: k, A: a}
			b := rows.Mixed(needed(f)+1, 8)
			was := fors.Digits(f, b)
			for bit := range 8 * len(b) {
				want := slices.Clone(was)
				if bit < k*a {
					want[bit/a] ^= 1 << (a - 1 - bit%a)
				}
				if got := fors.Digits(f, rows.TurnedBit(b, bit)); !slices.Equal(got, want) {
					t.Errorf("P17.1: Digits, %v, the bit %v turned: %v, not %v", f, bit, got, want)
				}
			}
		}
	}
}

// P17.1: the digits hang on K and A alone: sets that may be, but can't be made, have them too.
func TestDigitsOfEachSet(t *testing.T) {
	for i, high := range rows.MostLayers() {
		for layers := 1; layers <= high; layers++ {
			for _, n := range []int{16, 24, 32} {
				f := api.Few{N: n, Layers: layers, Height: i + 1, K: 5, A: 11}
				expectDigits(t, f, rows.Mixed(7, 9))
				noDigits(t, f, rows.Mixed(6, 9))
			}
		}
	}
	for _, f := range rows.HighFews() {
		for _, b := range enough(f, 10) {
			expectDigits(t, f, b)
		}
	}
}

// P17.1: nothing of a set that may not be, however many bytes there are.
func TestDigitsNoSets(t *testing.T) {
	for _, f := range rows.NoFews() {
		for _, b := range [][]byte{nil, {}, {0}, rows.Mixed(70, 11), rows.Mixed(1<<12, 11)} {
			noDigits(t, f, b)
		}
	}
}

// P17.1: the digits have memory of their own, and the bytes stay as they were, with their spare room, which doesn't tell.
func TestDigitsApart(t *testing.T) {
	for _, f := range []api.Few{base, {N: 16, Layers: 1, Height: 1, K: 3, A: 3}, {N: 32, Layers: 1, Height: 9, K: 40, A: 14}} {
		b := rows.Guarded(rows.Mixed(needed(f), 12))
		was := rows.Full(b)
		got := fors.Digits(f, b)
		kept := slices.Clone(got)
		again := fors.Digits(f, b)
		for i := range again[:cap(again)] {
			again[:cap(again)][i] = math.MaxUint32
		}
		if rows.Full(b) != was || !slices.Equal(got, kept) || !slices.Equal(fors.Digits(f, b), kept) {
			t.Errorf("P17.1: Digits, %v: shared or changed", f)
		}
		rows.Flip(b[:cap(b)])
		if !slices.Equal(got, kept) {
			t.Errorf("P17.1: Digits, %v: kept", f)
		}
		expectDigits(t, f, b)
		noDigits(t, f, b[:needed(f)-1])
		if !slices.Equal(fors.Digits(f, bytes.Clone(b)), fors.Digits(f, b)) {
			t.Errorf("P17.1: Digits, %v: unlike of the same bytes", f)
		}
	}
}
