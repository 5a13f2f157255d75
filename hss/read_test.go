package hss_test

import (
	"bytes"
	"encoding/binary"
	"math"
	"slices"
	"testing"

	"tearoff/api"
	"tearoff/hss"
	"tearoff/lms"
	"tearoff/rows"
)

// noRead tells where Read doesn't answer this code, and nothing beside it.
func noRead(t *testing.T, public, sig []byte, want api.Code, what ...any) {
	t.Helper()
	if got, e := hss.Read(public, sig); e != want || len(got) != 0 {
		t.Errorf("P13.3: Read, %v, %v and %v bytes: %v, %v, not %v", what, len(public), len(sig), e, got, want)
	}
}

// codes: the codes of a pair as a public key begins with them.
func codes(p api.Pair) []byte {
	return binary.BigEndian.AppendUint32(binary.BigEndian.AppendUint32(nil, p.Tree), p.Ots)
}

// bare: a public key, and a signature at these places, that nobody made, of any pairs that may be: but for the numbers and the codes of the keys all is mixed.
func bare(l []api.Pair, places []uint32, start byte) (public, sig []byte) {
	sig = number(len(l) - 1)
	for i, p := range l {
		n, m := lms.Sizes(p)
		key := append(codes(p), rows.Mixed(n-8, start)...)
		if i > 0 {
			sig = append(sig, key...)
		} else {
			public = append(number(len(l)), key...)
		}
		sig = append(binary.BigEndian.AppendUint32(sig, places[i]), rows.Mixed(m-4, start+1)...)
	}
	return public, sig
}

// P13.3: places of one level, of every pair that may be, whether there are such leaves or not, though nobody signed.
func TestReadOne(t *testing.T) {
	for _, p := range rows.Pairs() {
		for _, q := range edges(p) {
			pub, sig := bare([]api.Pair{p}, []uint32{q}, 71)
			names(t, pub, sig, []uint32{q}, p)
			names(t, rows.Guarded(pub), rows.Guarded(sig), []uint32{q}, p)
			none(t, pub, nil, sig, "nobody signed", p, q)
		}
	}
}

// P13.3: places of two levels, of every two pairs that may be, though they may not be levels.
func TestReadTwo(t *testing.T) {
	pairs := rows.Pairs()
	if testing.Short() {
		pairs = slices.Concat(pairs[:20], pairs[len(pairs)-20:])
	}
	for i, p := range pairs {
		for j, q := range pairs {
			places := []uint32{uint32(i) << 20, math.MaxUint32 - uint32(j)}
			pub, sig := bare([]api.Pair{p, q}, places, 72)
			names(t, pub, sig, places, p, q)
		}
	}
}

// P13.3: places of up to eight levels, that may be and that may not.
func TestReadMore(t *testing.T) {
	list := few()
	for sort := range sumCount {
		list = slices.Concat(list, tall(sort), slices.DeleteFunc(over(sort), func(l []api.Pair) bool { return len(l) > 8 }))
	}
	for i, p := range rows.Pairs() {
		for n := 1; n <= 8; n++ {
			l := slices.Repeat([]api.Pair{p}, n)
			l[i%n] = rows.Pairs()[(7*i+5)%144]
			list = append(list, l)
		}
	}
	for i, l := range list {
		var places []uint32
		for at := range l {
			places = append(places, uint32(at+1)<<24+uint32(i))
		}
		pub, sig := bare(l, places, 73)
		names(t, pub, sig, places, name(l))
	}
}

// P13.3: what Read tells of signatures that were made, and then turned: where the length and the keys' codes stay, the places, whichever bytes are turned.
func TestReadTurned(t *testing.T) {
	each(t, few(), func(t *testing.T, l []api.Pair) {
		s, n := rows.Seed(size(l), 74), hss.Total(l)-1
		pub, sig := public(t, l, s), sign(t, l, s, n, []byte("turned"))
		places := placesByHand(l, n)
		keys, sigs := starts(l)
		in := func(at int, starts []int, n int) int {
			return slices.IndexFunc(starts, func(x int) bool { return x > 0 && at >= x && at < x+n })
		}
		for at := range sig {
			got, e := hss.Read(pub, rows.Turned(sig, at))
			want := slices.Clone(places)
			if i := in(at, sigs, 4); i >= 0 {
				want[i] ^= 1 << (8 * (3 - (at - sigs[i])))
			}
			switch {
			case at < 4:
				noRead(t, pub, rows.Turned(sig, at), api.Malformed, "levels turned", name(l), at)
			case in(at, keys, 8) >= 0:
				if e == api.OK && !slices.Equal(got[:in(at, keys, 8)], want[:in(at, keys, 8)]) || e != api.OK && len(got) != 0 {
					t.Errorf("P13.3: Read, %v, a code turned, %v: %v, %v", name(l), at, e, got)
				}
			default:
				names(t, pub, rows.Turned(sig, at), want, "turned", name(l), at)
			}
		}
		for at := 12; at < len(pub); at++ {
			names(t, rows.Turned(pub, at), sig, places, "the public key turned", name(l), at)
		}
	})
}

// P13.3: a public key, and a signature, cut off at any place: Short; with bytes more: Length.
func TestReadLengths(t *testing.T) {
	list := append(few(), of(0, 25, 15), of(3, 25, 25, 25, 25, 25, 25, 25, 25), []api.Pair{pair(0, 2, 1), pair(3, 1, 5), pair(1, 8, 20)})
	each(t, list, func(t *testing.T, l []api.Pair) {
		pub, sig := bare(l, make([]uint32, len(l)), 75)
		names(t, pub, sig, make([]uint32, len(l)), name(l))
		for n := range pub {
			for _, x := range [][]byte{sig, nil, append(bytes.Clone(sig), 1), sig[:n]} {
				noRead(t, pub[:n], x, api.Short, "spare room behind", name(l))
				noRead(t, bytes.Clone(pub[:n]), x, api.Short, "bytes of the public key", name(l))
			}
		}
		for n := range sig {
			noRead(t, pub, sig[:n], api.Short, "spare room behind", name(l))
		}
		for n := range 40 {
			noRead(t, pub, bytes.Clone(sig[:n]), api.Short, "bytes of the signature", name(l))
			noRead(t, pub, bytes.Clone(sig[:len(sig)-1-n]), api.Short, "bytes of the signature", name(l))
		}
		noRead(t, nil, nil, api.Short, "nothing")
		for _, n := range []int{1, 2, 4, 8, 24, 52, 256, len(sig), 1 << 16} {
			more := rows.Mixed(n, 76)
			for _, x := range [][]byte{sig, nil, sig[:3], append(bytes.Clone(sig), 1), with(sig, 0, 99)} {
				noRead(t, append(bytes.Clone(pub), more...), x, api.Length, "a longer public key", name(l))
			}
			noRead(t, pub, append(bytes.Clone(sig), more...), api.Length, "a longer signature", name(l))
		}
	})
}

// P13.3: how many levels the public key tells: 0, 9 and more are Malformed, whatever the signature is.
func TestReadPublicCount(t *testing.T) {
	for _, l := range few() {
		pub, sig := bare(l, make([]uint32, len(l)), 77)
		for _, n := range counts() {
			if n >= 1 && n <= 8 {
				continue
			}
			for _, x := range [][]byte{sig, nil, sig[:2], with(sig, 0, n-1), with(sig, 0, n), number(int(n) - 1), append(bytes.Clone(sig), 0)} {
				noRead(t, with(pub, 0, n), x, api.Malformed, "levels in the public key", name(l), n)
			}
		}
	}
}

// P13.3: how many levels the signature tells: another number than one less than the public key's is Malformed, whatever stands behind it.
func TestReadCount(t *testing.T) {
	for _, l := range few() {
		pub, sig := bare(l, make([]uint32, len(l)), 78)
		for n := uint32(1); n <= 8; n++ {
			for _, m := range counts() {
				if m == n-1 {
					continue
				}
				for _, x := range [][]byte{with(sig, 0, m), number(int(m)), append(number(int(m)), 1), append(with(sig, 0, m), 0), with(sig, 0, m)[:len(sig)-1]} {
					noRead(t, with(pub, 0, n), x, api.Malformed, "levels in the key, and in the signature", name(l), n, m)
				}
			}
		}
		for n := uint32(1); n <= 8; n++ {
			want := api.Short
			if int(n) == len(l) {
				continue
			} else if int(n) < len(l) {
				want = api.Length
			}
			// Where there are more levels than are told, bytes are left behind the last one of them; where there are fewer, they end too soon.
			noRead(t, with(pub, 0, n), with(sig, 0, n-1), want, "more or fewer levels", name(l), n)
		}
	}
}

// P13.3: codes that aren't those of a pair that may be: in the public key Unknown, as soon as they are there; in a signature's key likewise.
func TestReadUnknown(t *testing.T) {
	l := of(1, 1, 2, 1)
	pub, sig := bare(l, []uint32{0, 1, 2}, 79)
	keys, _ := starts(l)
	for _, p := range rows.NoPairs() {
		head := append(number(3), codes(p)...)
		for _, rest := range [][]byte{nil, {0}, pub[12:], rows.Mixed(300, 80)} {
			for _, x := range [][]byte{sig, nil, with(sig, 0, 99)} {
				noRead(t, slices.Concat(head, rest), x, api.Unknown, "the public key", p)
			}
		}
		for _, n := range []int{4, 11} {
			noRead(t, head[:n], sig, api.Short, "bytes of the public key", p)
		}
		noRead(t, with(append(head, pub[12:]...), 0, 0), sig, api.Unknown, "no levels, and the codes", p)
		for _, at := range keys[1:] {
			bad := slices.Concat(sig[:at], codes(p), sig[at+8:])
			for _, x := range [][]byte{bad, bad[:at+8], bad[:at+9], append(bytes.Clone(bad), 0), bad[:len(bad)-1]} {
				noRead(t, pub, x, api.Unknown, "a key of the signature", p, at)
			}
			for n := range 8 {
				noRead(t, pub, bad[:at+n], api.Short, "bytes of a key's codes", p, at, n)
			}
		}
	}
}

// P13.3: a key in a signature whose pair has other sizes: what stands behind it is read by those.
func TestReadOtherPair(t *testing.T) {
	l := of(1, 1, 1)
	pub, sig := bare(l, []uint32{3, 4}, 81)
	keys, _ := starts(l)
	_, was := lms.Sizes(l[1])
	for _, p := range rows.Pairs() {
		other := slices.Concat(sig[:keys[1]], codes(p), sig[keys[1]+8:])
		o, _ := rows.SetsOf(p)
		_, is := lms.Sizes(p)
		switch more := o.N - 24 + is - was; {
		case more > 0:
			noRead(t, pub, other, api.Short, "a greater pair", p)
		case more < 0:
			noRead(t, pub, other, api.Length, "a smaller pair", p)
		default:
			names(t, pub, other, []uint32{3, 4}, "a pair of this size", p)
		}
		whole, wanted := bare([]api.Pair{l[0], p}, []uint32{5, 6}, 82)
		names(t, whole, wanted, []uint32{5, 6}, "the pair's own sizes", p)
	}
}

// P13.3: what is wrong first is told, where several things are.
func TestReadFirst(t *testing.T) {
	l := of(1, 1, 1)
	pub, sig := bare(l, []uint32{0, 0}, 83)
	keys, sigs := starts(l)
	long := func(b []byte) []byte { return append(bytes.Clone(b), 0) }
	for _, c := range []struct {
		what        string
		public, sig []byte
		want        api.Code
	}{
		{"the key's number, and the signature", pub[:3], nil, api.Short},
		{"the key ends behind its number, nine", number(9), sig, api.Short},
		{"the key ends in its codes, nine", with(pub, 0, 9)[:11], sig, api.Short},
		{"the key ends behind its codes, nine", with(pub, 0, 9)[:12], sig, api.Short},
		{"the codes, the key ends, nine", with(with(pub, 0, 9), 4, 99)[:12], sig, api.Unknown},
		{"the codes, the key is longer, nine", long(with(with(pub, 0, 9), 4, 99)), sig, api.Unknown},
		{"the one-time code, no signature", with(pub, 8, 99), nil, api.Unknown},
		{"the key is longer, nine", long(with(pub, 0, 9)), sig, api.Length},
		{"the key is longer, no levels, no signature", long(with(pub, 0, 0)), nil, api.Length},
		{"nine, no signature", with(pub, 0, 9), nil, api.Malformed},
		{"nine, the signature's number", with(pub, 0, 9), with(sig, 0, 8)[:4], api.Malformed},
		{"no levels, the signature's number", with(pub, 0, 0), number(math.MaxUint32), api.Malformed},
		{"the signature ends in its number, which is another", pub, number(2)[:3], api.Short},
		{"the signature's number, and it ends", pub, number(2), api.Malformed},
		{"the signature's number, and it is longer", pub, long(with(sig, 0, 0)), api.Malformed},
		{"the signature's number, and a key's code", pub, with(with(sig, 0, 2), keys[1], 99), api.Malformed},
		{"the signature ends behind its number", pub, sig[:4], api.Short},
		{"the signature ends in the first one", pub, sig[:keys[1]-1], api.Short},
		{"a key's code, and it ends", pub, with(sig, keys[1], 99)[:keys[1]+8], api.Unknown},
		{"a key's code, and it is longer", pub, long(with(sig, keys[1], 99)), api.Unknown},
		{"a key's one-time code, and it is longer", pub, long(with(sig, keys[1]+4, 99)), api.Unknown},
		{"a key of another size, and it ends", pub, with(with(sig, keys[1], 5), keys[1]+4, 1), api.Short},
		{"the key ends behind its codes", pub, sig[:keys[1]+8], api.Short},
		{"the signature ends behind its last key", pub, sig[:sigs[1]], api.Short},
		{"all is there, and a byte more", pub, long(sig), api.Length},
	} {
		noRead(t, c.public, c.sig, c.want, c.what)
		none(t, c.public, nil, c.sig, c.what)
	}
}
