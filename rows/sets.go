package rows

import (
	"math"

	"tearoff/api"
	"tearoff/sets"
)

// otsCount is how many sets of one-time signatures there are.
const otsCount = 16

// Sets: all sets of one-time signatures. It panics where some are missing, so that no test passes for want of them.
func Sets() []api.Ots {
	var out []api.Ots
	for _, code := range sets.OtsCodes() {
		o, e := sets.Ots(code)
		if e != api.OK {
			panic("a code of no set")
		}
		out = append(out, o)
	}
	if len(out) != otsCount {
		panic("not as many sets as there are")
	}
	return out
}

// NoSets: those that differ from one of the sets in a single number, and some that differ in all.
func NoSets() []api.Ots {
	out := []api.Ots{{}, {Code: math.MaxUint32}, {N: 24}, {N: 32, P: 1, W: 1}, {N: 32, P: 67, W: 4, Shift: 4}, {Code: 17, N: 32, P: 67, W: 4, Shift: 4}, {Code: 3, Kind: -1, N: -32, W: -4, P: -67, Shift: -4}}
	for _, o := range Sets() {
		for _, code := range []uint32{0, 17, 18, o.Code + 1, o.Code - 1, o.Code + 4, o.Code + 8, o.Code + 256, o.Code + 1<<16, o.Code | 0xf0000000, o.Code | 1<<31} {
			x := o
			x.Code = code
			out = append(out, x)
		}
		for _, field := range []func(*api.Ots) *int{
			func(o *api.Ots) *int { return &o.Kind },
			func(o *api.Ots) *int { return &o.N },
			func(o *api.Ots) *int { return &o.W },
			func(o *api.Ots) *int { return &o.P },
			func(o *api.Ots) *int { return &o.Shift },
		} {
			was := *field(&o)
			for _, v := range []int{was + 1, was - 1, was + 2, was + 8, was - 8, 2 * was, -was, ^was, was + 256, was + 1<<16, was + 1<<32, was + math.MinInt, math.MaxInt, 0, 1, 2, 4, 8, 24, 32, 67, 265} {
				if x := o; v != was {
					*field(&x) = v
					out = append(out, x)
				}
			}
		}
	}
	return out
}

// Places: numbers q, each of whose bytes tells in one of them.
func Places() []uint32 {
	return []uint32{0, 1, 2, 255, 256, 258, 0xffff, 0x10000, 0x1020304, 1 << 31, math.MaxUint32 - 1, math.MaxUint32}
}

// Words: numbers d, each of whose bytes tells in one of them.
func Words() []uint16 {
	return []uint16{0, 1, 255, 256, 258, 264, 0x8080, 0x8081, 0x8181, 0x8282, 0x8383, 0xfffd, 0xffff}
}
