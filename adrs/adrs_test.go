package adrs_test

import (
	"bytes"
	"encoding/binary"
	"math"
	"slices"
	"testing"

	"tearoff/adrs"
	"tearoff/api"
	"tearoff/rows"
)

// placed is an address, and the number with which it is told as bytes.
type placed struct {
	api.Adrs
	k uint32
}

// part is one of an address's numbers: how many bytes it has, where they begin as Bytes and as Plain (none: they aren't there), and how a value is laid into it.
type part struct {
	name         string
	size         int
	bytes, plain int
	lay          func(p *placed, v uint64)
}

// none is where a part begins that isn't there.
const none = -1

// parts: all numbers of an address as they lie beside one another, the number with which it is told at last.
func parts() []part {
	return []part{
		{"Layer", 4, 0, 0, func(p *placed, v uint64) { p.Layer = uint32(v) }},
		{"Tree", 8, 4, 8, func(p *placed, v uint64) { p.Tree = v }},
		{"Kind", 4, 12, 16, func(p *placed, v uint64) { p.Kind = uint32(v) }},
		{"A", 4, 16, 20, func(p *placed, v uint64) { p.A = uint32(v) }},
		{"B", 4, 20, 24, func(p *placed, v uint64) { p.B = uint32(v) }},
		{"C", 4, 24, 28, func(p *placed, v uint64) { p.C = uint32(v) }},
		{"k", 4, 28, none, func(p *placed, v uint64) { p.k = uint32(v) }},
	}
}

// with: p with another value in a part.
func (x part) with(p placed, v uint64) placed {
	x.lay(&p, v)
	return p
}

// greatest: the greatest value of a part.
func (x part) greatest() uint64 { return math.MaxUint64 >> (64 - 8*x.size) }

// values: those at a part's edges, with a byte of its own in each place, and with each bit alone.
func (x part) values() []uint64 {
	all := x.greatest()
	out := []uint64{0, 1, 2, 0x0102030405060708 & all, 0xf1e2d3c4b5a69788 & all, all / 2, all - 1, all}
	for i := range x.size {
		out = append(out, 0xab<<(8*i), all^0xab<<(8*i))
	}
	for i := range 8 * x.size {
		out = append(out, 1<<i)
	}
	return out
}

// numbers are those with which an address is told.
var numbers = []uint32{0, 1, math.MaxUint32}

// mixed: an address whose numbers aren't alike, and that start marks.
func mixed(start byte) placed {
	var p placed
	b := rows.Mixed(32, start)
	for _, x := range parts() {
		var v uint64
		for _, c := range b[x.bytes : x.bytes+x.size] {
			v = v<<8 | uint64(c)
		}
		p = x.with(p, v)
	}
	return p
}

// full: the address with the greatest numbers.
func full() placed {
	var p placed
	for _, x := range parts() {
		p = x.with(p, x.greatest())
	}
	return p
}

// grounds: addresses in which the tests lay other numbers.
func grounds() []placed { return []placed{{}, full(), mixed(1), mixed(2)} }

// bytesByHand, plainByHand: what Bytes and Plain must answer, laid out here.
func bytesByHand(a api.Adrs, k uint32) []byte {
	b := binary.BigEndian.AppendUint32(nil, a.Layer)
	b = binary.BigEndian.AppendUint64(b, a.Tree)
	for _, v := range []uint32{a.Kind, a.A, a.B, a.C, k} {
		b = binary.BigEndian.AppendUint32(b, v)
	}
	return b
}

func plainByHand(a api.Adrs) []byte {
	b := bytesByHand(a, 0)
	return slices.Concat(b[:4], make([]byte, 4), b[4:28])
}

// expect tells where bytes aren't those that they must be.
func expect(t *testing.T, got, want []byte, what ...any) {
	t.Helper()
	if !bytes.Equal(got, want) {
		t.Errorf("%v: %v bytes, %x, not %v, %x", what, len(got), got, len(want), want)
	}
}

// nothing tells where bytes are there that may not be.
func nothing(t *testing.T, got []byte, what ...any) {
	t.Helper()
	if len(got) != 0 {
		t.Errorf("%v: %v bytes, %x, not nothing", what, len(got), got)
	}
}

// P14.1: the chapter's example.
func TestExample(t *testing.T) {
	want := append([]byte{0, 0, 0, 1}, make([]byte, 28)...)
	expect(t, adrs.Bytes(api.Adrs{Layer: 1}, 0), want, "P14.1: Bytes, Layer 1")
	expect(t, adrs.Plain(api.Adrs{Layer: 1}), want, "P14.1: Plain, Layer 1")
}

// P14.1: a byte of its own in each place of an address.
func TestOwnBytes(t *testing.T) {
	a := api.Adrs{Layer: 0x01020304, Tree: 0x05060708090a0b0c, Kind: 0x0d0e0f10, A: 0x11121314, B: 0x15161718, C: 0x191a1b1c}
	want := []byte{1, 2, 3, 4, 5, 6, 7, 8, 9, 10, 11, 12, 13, 14, 15, 16, 17, 18, 19, 20, 21, 22, 23, 24, 25, 26, 27, 28, 29, 30, 31, 32}
	expect(t, adrs.Bytes(a, 0x1d1e1f20), want, "P14.1: Bytes, a byte of its own in each place")
	want = []byte{1, 2, 3, 4, 0, 0, 0, 0, 5, 6, 7, 8, 9, 10, 11, 12, 13, 14, 15, 16, 17, 18, 19, 20, 21, 22, 23, 24, 25, 26, 27, 28}
	expect(t, adrs.Plain(a), want, "P14.1: Plain, a byte of its own in each place")
}

// laid: b with a part's value at a place; b, if the part isn't there.
func (x part) laid(b []byte, at int, v uint64) []byte {
	out := bytes.Clone(b)
	if at == none {
		return out
	}
	for i := range x.size {
		out[at+x.size-1-i] = byte(v >> (8 * i))
	}
	return out
}

// P14.1: each number at its edges, and with a byte of its own in each place, lies where it must, and nowhere else, in both forms.
func TestEachNumber(t *testing.T) {
	for _, ground := range grounds() {
		for _, x := range parts() {
			for _, v := range x.values() {
				for _, k := range append(numbers, ground.k) {
					p := ground
					p.k = k
					p = x.with(p, v)
					expect(t, adrs.Bytes(p.Adrs, p.k), x.laid(bytesByHand(ground.Adrs, k), x.bytes, v), "P14.1: Bytes", x.name, v, ground, k)
					expect(t, adrs.Plain(p.Adrs), x.laid(plainByHand(ground.Adrs), x.plain, v), "P14.1: Plain", x.name, v, ground)
				}
			}
		}
	}
}

// P14.1: of an address all of whose numbers are 0, and all the greatest, with each number k.
func TestEnds(t *testing.T) {
	ones := bytes.Repeat([]byte{255}, 32)
	for _, k := range numbers {
		last := binary.BigEndian.AppendUint32(nil, k)
		expect(t, adrs.Bytes(api.Adrs{}, k), append(make([]byte, 28), last...), "P14.1: Bytes, nothing but 0", k)
		expect(t, adrs.Bytes(full().Adrs, k), slices.Concat(ones[:28], last), "P14.1: Bytes, nothing but 255", k)
	}
	expect(t, adrs.Plain(api.Adrs{}), make([]byte, 32), "P14.1: Plain, nothing but 0")
	expect(t, adrs.Plain(full().Adrs), slices.Concat(ones[:4], make([]byte, 4), ones[:24]), "P14.1: Plain, nothing but 255")
}

// unlike tells where two of these have the same bytes, in a form in which they differ.
func unlike(t *testing.T, list []placed) {
	t.Helper()
	withNumber, plain := map[string]placed{}, map[string]api.Adrs{}
	for _, p := range list {
		b, c := string(adrs.Bytes(p.Adrs, p.k)), string(adrs.Plain(p.Adrs))
		if q, ok := withNumber[b]; ok && p != q {
			t.Errorf("P14.3: Bytes of %v and %v: %x", p, q, b)
		}
		if a, ok := plain[c]; ok && p.Adrs != a {
			t.Errorf("P14.3: Plain of %v and %v: %x", p, a, c)
		}
		withNumber[b], plain[c] = p, p.Adrs
	}
}

// P14.3: addresses that differ in one number alone have unlike bytes, both ways; with unlike numbers, too.
func TestOneNumberApart(t *testing.T) {
	for _, ground := range grounds() {
		var all []placed
		for _, x := range parts() {
			var list []placed
			for _, v := range x.values() {
				list = append(list, x.with(ground, v))
			}
			unlike(t, list)
			all = append(all, list...)
		}
		unlike(t, all)
	}
}

// apartBits: how many bits two rows differ in.
func apartBits(a, b []byte) int {
	n := 0
	for i := range a {
		for c := a[i] ^ b[i]; c > 0; c &= c - 1 {
			n++
		}
	}
	return n
}

// P14.3: addresses that differ in one bit alone have bytes that do, both ways (but Plain knows no number k).
func TestOneBitApart(t *testing.T) {
	for _, ground := range grounds() {
		list := []placed{ground}
		for _, x := range parts() {
			for i := range 8 * x.size {
				p := turnedBit(x, ground, i)
				bit := [2]int{1, 1}
				if x.plain == none {
					bit[1] = 0
				}
				got := [2]int{
					apartBits(adrs.Bytes(p.Adrs, p.k), bytesByHand(ground.Adrs, ground.k)),
					apartBits(adrs.Plain(p.Adrs), plainByHand(ground.Adrs)),
				}
				if got != bit {
					t.Errorf("P14.3: the bit %v of %v of %v turned: %v bits are others, not %v", i, x.name, ground, got, bit)
				}
				list = append(list, p)
			}
		}
		unlike(t, list)
	}
}

// turnedBit: p with another bit i in a part.
func turnedBit(x part, p placed, i int) placed {
	b := bytesByHand(p.Adrs, p.k)[x.bytes : x.bytes+x.size]
	var v uint64
	for _, c := range b {
		v = v<<8 | uint64(c)
	}
	return x.with(p, v^1<<i)
}

// P14.3: addresses that differ in two numbers that lie beside one another: all values of the one with all of the other, so that what moves from one to the other tells.
func TestTwoNumbersApart(t *testing.T) {
	for _, ground := range grounds() {
		list := parts()
		for i, x := range list[1:] {
			before := list[i]
			var pairs []placed
			for _, v := range before.values() {
				for _, w := range x.values() {
					pairs = append(pairs, x.with(before.with(ground, v), w))
				}
			}
			unlike(t, pairs)
		}
	}
}

// P14.3: a value that changes its place with the one beside it tells.
func TestExchanged(t *testing.T) {
	for _, v := range rows.Places() {
		for _, w := range rows.Places() {
			if v == w {
				continue
			}
			var list []placed
			for i, x := range parts() {
				for _, y := range parts()[i+1:] {
					list = append(list, y.with(x.with(placed{}, uint64(v)), uint64(w)), y.with(x.with(placed{}, uint64(w)), uint64(v)))
				}
			}
			unlike(t, list)
		}
	}
}
