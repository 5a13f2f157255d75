// Package rows holds what the tests of the layers have in common: rows of bytes, what tells whether they are those that they must be, and whether a call changed, kept or shared them, the primes, the seeds that may be of a set and those that may not, the secrets of keys with masks likewise, layer 11's trees, layer 14's sums, layer 20's records and layer 21's counters put together by hand, disks, the choices by which their writes are lost, mixed rows and plans, digits read off letters, the pairs of sets, levels of them that may be and such as may not, the sets with the numbers that their sums hang on, and the sets of few that may not be, or can't be made. No layer calls it.
package rows

// room is what lies behind a guarded row.
const room = "room"

// Guarded: the bytes of b, in memory of its own, with the bytes of "room" as spare room behind them.
func Guarded(b []byte) []byte {
	out := append(make([]byte, 0, len(b)+len(room)), b...)
	copy(out[len(b):cap(out)], room)
	return out
}

// Full: b with its spare room.
func Full(b []byte) string {
	return string(b[:cap(b)])
}

// Flip makes every byte of b another one.
func Flip(b []byte) {
	for i := range b {
		b[i] ^= 255
	}
}

// Apart: how a call fails to keep its answer apart from the rows that it is handed, and from its other answers; nothing, if it doesn't fail. The rows are handed in as copies, with spare room.
func Apart(call func(in [][]byte) []byte, in ...[]byte) string {
	bare, in := every(in, func(b []byte) []byte { return append(make([]byte, 0, len(b)), b...) }), every(in, Guarded)
	was := whole(in)
	got := call(in)
	kept := string(got)
	if whole(in) != was {
		return "changes what is handed in"
	}
	if string(call(bare)) != kept {
		return "hangs on spare room"
	}
	again := call(in)
	Flip(again[:cap(again)])
	if whole(in) != was || string(got) != kept || string(call(in)) != kept {
		return "shares its answer"
	}
	for _, b := range in {
		Flip(b[:cap(b)])
	}
	call(in)
	if string(got) != kept {
		return "hangs on what was written over"
	}
	return ""
}

// ApartList: how a call fails to keep each row of its answer apart, likewise, and from the other rows; nothing, if it doesn't fail.
func ApartList(call func(in [][]byte) [][]byte, in ...[]byte) string {
	got := call(every(in, Guarded))
	for i := range got {
		if how := Apart(func(in [][]byte) []byte { return call(in)[i] }, in...); how != "" {
			return how
		}
	}
	for i, b := range got {
		was := whole(got[:i]) + whole(got[i+1:])
		Flip(b[:cap(b)])
		if whole(got[:i])+whole(got[i+1:]) != was {
			return "shares rows of its answer"
		}
	}
	return ""
}

// every: what is made of each row.
func every(list [][]byte, do func(b []byte) []byte) [][]byte {
	var out [][]byte
	for _, b := range list {
		out = append(out, do(b))
	}
	return out
}

// whole: all rows with their spare room.
func whole(list [][]byte) string {
	out := ""
	for _, b := range list {
		out += Full(b)
	}
	return out
}

// Mixed: n bytes that aren't alike, and that start marks.
func Mixed(n int, start byte) []byte {
	out := make([]byte, n)
	x := uint32(start) + 1
	for i := range out {
		x = x*1664525 + 1013904223
		out[i] = byte(x >> 24)
	}
	return out
}

// Primes: the first n of them.
func Primes(n int) []int64 {
	var out []int64
	for p := int64(2); len(out) < n; p++ {
		if !divided(p, out) {
			out = append(out, p)
		}
	}
	return out
}

// divided: whether one of these divides p.
func divided(p int64, by []int64) bool {
	for _, q := range by {
		if p%q == 0 {
			return true
		}
	}
	return false
}
