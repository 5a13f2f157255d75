package reserve_test

import (
	"bytes"
	"encoding/hex"
	"math"
	"slices"
	"testing"

	"tearoff/api"
	"tearoff/reserve"
	"tearoff/rows"
)

// nexts are next numbers that a state may have, or not: for Bytes they don't count.
func nexts(x api.Counted) []uint64 {
	return []uint64{0, 1, x.Reserved - 1, x.Reserved, x.Reserved + 1, x.Total, x.Total + 1, math.MaxUint64}
}

// writes tells where a counter isn't written by these bytes.
func writes(t *testing.T, x api.Counted, head, want []byte) {
	t.Helper()
	if b, e := reserve.Bytes(x, head); e != api.OK || !bytes.Equal(b, want) {
		t.Errorf("P21.1: Bytes(%+v, %.20x): %x, %v, not %x", x, head, b, e, want)
	}
}

// noBytes tells where a counter is written that may not be.
func noBytes(t *testing.T, x api.Counted, head []byte) {
	t.Helper()
	if b, e := reserve.Bytes(x, head); e != api.Arg || len(b) != 0 {
		t.Errorf("P21.1: Bytes(%+v, %v bytes): %x, %v, not Arg", x, len(head), b, e)
	}
}

// reads tells where bytes aren't this counter, or aren't what it is written by.
func reads(t *testing.T, b []byte, want api.Counted, head []byte) {
	t.Helper()
	x, h, e := reserve.Read(b)
	if e != api.OK || x != want || !bytes.Equal(h, head) {
		t.Errorf("P21.1: Read(%x): %+v, %x, %v, not %+v, %x", b, x, h, e, want, head)
	}
	writes(t, x, h, b)
}

// noRead tells where bytes are read that may not be.
func noRead(t *testing.T, b []byte, want api.Code) {
	t.Helper()
	if x, head, e := reserve.Read(b); e != want || x != (api.Counted{}) || len(head) != 0 {
		t.Errorf("P21.1: Read(%v bytes, %.30x): %+v, %x, %v, not %v", len(b), b, x, head, e, want)
	}
}

// P21.1: counters written out, byte by byte.
func TestWrittenOut(t *testing.T) {
	for _, c := range []struct {
		text string
		x    api.Counted
		head string
	}{
		{"0000000000000007" + "0000000000000003" + "0000000000000006" + "00" + "68656164", api.Counted{Total: 7, Batch: 3, Reserved: 6, Next: 6}, "head"},
		{"0000000000000001" + "0000000000000001" + "0000000000000000" + "01", api.Counted{Total: 1, Batch: 1, Retired: true}, ""},
		{"0123456789abcdef" + "000000000000fedc" + "0023456789abcdef" + "01" + "00", api.Counted{Total: 0x0123456789abcdef, Batch: 0xfedc, Reserved: 0x23456789abcdef, Next: 0x23456789abcdef, Retired: true}, "\x00"},
		{"1000000000000000" + "0000000000010000" + "1000000000000000" + "00" + "ff", api.Counted{Total: 1 << 60, Batch: 1 << 16, Reserved: 1 << 60, Next: 1 << 60}, "\xff"},
	} {
		b, err := hex.DecodeString(c.text)
		if err != nil {
			t.Fatal(err)
		}
		writes(t, c.x, []byte(c.head), b)
		reads(t, b, c.x, []byte(c.head))
		if !bytes.Equal(bytesOf(c.x, []byte(c.head)), b) {
			t.Errorf("the bytes by hand aren't %v", c.text)
		}
	}
}

// P21.1: Bytes of counters that may be, with heads of all sizes, retired and not: put together by hand; the next number doesn't count. They are read so, with the next one being what is reserved.
func TestBytesAndRead(t *testing.T) {
	for _, x := range counters() {
		for _, head := range heads() {
			want := bytesOf(x, head)
			reads(t, want, x, head)
			for _, next := range nexts(x) {
				y := x
				y.Next = next
				writes(t, y, head, want)
			}
		}
	}
}

// P21.1: a head of every size up to 200.
func TestHeads(t *testing.T) {
	x := api.Counted{Total: 9, Batch: 2, Reserved: 4, Next: 4}
	for size := range maxHead + 1 {
		head := rows.Mixed(size, byte(size))
		writes(t, x, head, bytesOf(x, head))
		reads(t, bytesOf(x, head), x, head)
	}
}

// P21.1: Bytes of what may not be, by its numbers, by its head, or by both: Arg, whatever the next number is. Read of such bytes, as they would be: Malformed.
func TestMayNotBe(t *testing.T) {
	all := noCounters()
	for _, x := range all {
		for _, head := range slices.Concat(heads()[:5], longHeads()[:2]) {
			for _, next := range nexts(x) {
				x.Next = next
				noBytes(t, x, head)
			}
			noRead(t, bytesOf(x, head), api.Malformed)
		}
	}
	for _, x := range slices.Concat(counters(), all) {
		for _, head := range longHeads()[:3] {
			noBytes(t, x, head)
			noRead(t, bytesOf(x, head), api.Malformed)
		}
	}
	for _, head := range longHeads() {
		x := api.Counted{Total: 9, Batch: 2, Reserved: 4, Next: 4}
		noBytes(t, x, head)
		noRead(t, bytesOf(x, head), api.Malformed)
	}
}

// P21.1: Read of fewer than 25 bytes: Short, whatever they are, a byte that is neither among them.
func TestReadShort(t *testing.T) {
	whole := bytesOf(api.Counted{Total: 9, Batch: 2, Reserved: 4}, nil)
	for size := range bareLen {
		for _, b := range [][]byte{whole[:size:size], whole[:size], make([]byte, size), bytes.Repeat([]byte{255}, size), rows.Mixed(size, 1), rows.Guarded(whole[:size])} {
			noRead(t, b, api.Short)
		}
	}
	noRead(t, nil, api.Short)
}

// P21.1: Read of just 25 bytes, of 225, and of one more than either, and of many: more than 225 are Malformed.
func TestReadLengths(t *testing.T) {
	x := api.Counted{Total: 9, Batch: 2, Reserved: 4, Next: 4, Retired: true}
	whole := bytesOf(x, rows.Mixed(1<<16, 1))
	for _, size := range []int{25, 26, 224, 225} {
		reads(t, whole[:size], x, whole[25:size])
	}
	for _, size := range []int{226, 227, 256, 257, 25 + 256, 281, 425, 1 << 16, 1<<16 + 25} {
		noRead(t, whole[:size], api.Malformed)
	}
}

// P21.1: Read with each value of the byte that tells whether it is retired: 0 and 1 may be, all others are Malformed.
func TestReadMark(t *testing.T) {
	for _, head := range [][]byte{nil, {1}, rows.Mixed(200, 1)} {
		for mark := range 256 {
			x := api.Counted{Total: 9, Batch: 2, Reserved: 4, Next: 4, Retired: mark == 1}
			b := bytesOf(x, head)
			b[24] = byte(mark)
			if mark < 2 {
				reads(t, b, x, head)
			} else {
				noRead(t, b, api.Malformed)
			}
		}
	}
}

// readByHand: what Read must answer of 25 bytes or more.
func readByHand(b []byte) (x api.Counted, head []byte, ok bool) {
	number := func(b []byte) (v uint64) {
		for _, c := range b {
			v = v*256 + uint64(c)
		}
		return v
	}
	x = api.Counted{Total: number(b[:8]), Batch: number(b[8:16]), Reserved: number(b[16:24]), Next: number(b[16:24]), Retired: b[24] == 1}
	return x, b[25:], b[24] < 2 && mayBe(x, b[25:])
}

// readsByHand tells where bytes are read in another way than by hand.
func readsByHand(t *testing.T, b []byte) {
	t.Helper()
	if x, head, ok := readByHand(b); ok {
		reads(t, b, x, head)
	} else {
		noRead(t, b, api.Malformed)
	}
}

// P21.1: Read of counters with one bit turned, and with one byte being another: what it tells by hand.
func TestReadTurned(t *testing.T) {
	for _, x := range []api.Counted{{Total: 9, Batch: 2, Reserved: 4}, {Total: maxTotal, Batch: maxBatch, Reserved: maxTotal, Retired: true}, {Total: 1, Batch: 1}, {Total: 1<<32 + 5, Batch: 257, Reserved: 1 << 32}} {
		for _, head := range [][]byte{nil, []byte("head")} {
			b := bytesOf(x, head)
			for bit := range 8 * len(b) {
				readsByHand(t, rows.TurnedBit(b, bit))
			}
			for at := range b {
				for c := range 256 {
					turned := slices.Clone(b)
					turned[at] = byte(c)
					readsByHand(t, turned)
				}
			}
		}
	}
}

// P21.1: Read of mixed bytes, most of whose numbers are small ones: what it tells by hand.
func TestReadMixed(t *testing.T) {
	m := mixed(1)
	for range 20000 {
		b := mixedRow(m, 25+m.IntN(230))
		for k, at := range []int{0, 8, 16, 24} {
			if zeros := m.IntN(9); k == 3 {
				b[at] &= 3
			} else {
				clear(b[at : at+zeros])
			}
		}
		readsByHand(t, b)
	}
}
