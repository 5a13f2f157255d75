package rows

import (
	"bytes"
	"slices"

	"tearoff/api"
	"tearoff/disk"
)

// Disk: a disk of so many sectors. It panics where there is none.
func Disk(sectors int) *disk.Disk {
	d, e := disk.New(sectors)
	if e != api.OK {
		panic("no such disk")
	}
	return d
}

// SameDisk tells where a disk isn't as another one: in what it counted, what is pending, what is sure, or how a sector reads.
func SameDisk(t Tester, got, want *disk.Disk, what ...any) {
	t.Helper()
	n, m := got.Count()
	if k, l := want.Count(); n != k || m != l {
		t.Errorf("%v: Count: %v, %v, not %v, %v", what, n, m, k, l)
	}
	is, must := got.Sure(), want.Sure()
	if !slices.EqualFunc(is, must, bytes.Equal) {
		t.Errorf("%v: Sure: %x, not %x", what, is, must)
	}
	for i := range is {
		b, e := got.Read(i)
		if c, f := want.Read(i); e != f || !bytes.Equal(b, c) {
			t.Errorf("%v: the sector %v: %x, %v, not %x, %v", what, i, b, e, c, f)
		}
	}
}

// Choices are some of each kind, by which a write is lost, there as a whole, or torn at the edges of a record's parts.
func Choices() []byte {
	out := []byte{0, 1}
	for _, n := range []byte{0, 1, 7, 8, 11, 12, 16, 20, 28, 40, 63} {
		out = append(out, 2+4*n, 3+4*n)
	}
	return out
}

// Every calls what is to be done with each row of n bytes of these.
func Every(n int, of []byte, do func(row []byte)) {
	if n == 0 {
		do(nil)
		return
	}
	for _, c := range of {
		Every(n-1, of, func(row []byte) { do(append(slices.Clone(row), c)) })
	}
}
