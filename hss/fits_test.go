package hss_test

import (
	"bytes"
	"encoding/binary"
	"math"
	"slices"
	"testing"

	"tearoff/api"
	"tearoff/hss"
	"tearoff/lms"
	"tearoff/merkle"
	"tearoff/once"
	"tearoff/rows"
)

// none tells where a signature fits.
func none(t *testing.T, public, text, sig []byte, what ...any) {
	t.Helper()
	if hss.Fits(public, text, sig) {
		t.Errorf("P13.3: Fits, %v", what)
	}
}

// with: b with a number of 4 bytes at a place, in memory of its own.
func with(b []byte, at int, v uint32) []byte {
	out := bytes.Clone(b)
	binary.BigEndian.PutUint32(out[at:], v)
	return out
}

// starts: where in a signature each level's key begins (of the top one, which isn't in it, 0), and its own signature.
func starts(l []api.Pair) (keys, sigs []int) {
	at := 4
	for i, p := range l {
		n, m := lms.Sizes(p)
		keys = append(keys, 0)
		if i > 0 {
			keys[i] = at
			at += n
		}
		sigs = append(sigs, at)
		at += m
	}
	return keys, sigs
}

// P13.4: what was signed at an index fits its own text, index and key, and no others.
func TestFitsNothingElse(t *testing.T) {
	each(t, few(), func(t *testing.T, l []api.Pair) {
		text, s := rows.Mixed(12, 21), rows.Seed(size(l), 22)
		pub, elsewhere := public(t, l, s), public(t, l, rows.Seed(size(l), 23))
		renamed := public(t, l, api.Seed{Name: rows.Turned(s.Name, 0), Secret: s.Secret})
		_, sigs := starts(l)
		for _, n := range ends(l) {
			sig := sign(t, l, s, n, text)
			fits(t, pub, text, sig, name(l), n)
			for i := range text {
				none(t, pub, rows.Turned(text, i), sig, "a byte of the text", name(l), n, i)
			}
			for _, other := range [][]byte{nil, text[:11], text[1:], append(bytes.Clone(text), 0), append([]byte{0}, text...), append(bytes.Clone(text), text...)} {
				none(t, pub, other, sig, "another text", name(l), n, len(other))
			}
			for i, p := range l {
				q := placesByHand(l, n)[i]
				for _, other := range []uint32{q ^ 1, q + 1, q - 1, q + uint32(leaves(p)), q + 1<<31, math.MaxUint32} {
					none(t, pub, text, with(sig, sigs[i], other), "another place", name(l), n, i, other)
				}
			}
			none(t, elsewhere, text, sig, "another seed's key", name(l), n)
			none(t, renamed, text, sig, "another name's key", name(l), n)
		}
	})
}

// P13.3: the upper levels of one index, and the lower ones of another: it fits only where both indices have the upper places in common, so that it is the signature of the other one.
func TestMingled(t *testing.T) {
	each(t, [][]api.Pair{of(0, 1, 1), of(1, 2, 1), of(2, 1, 1), of(1, 1, 1, 1), of(3, 1, 1, 1)}, func(t *testing.T, l []api.Pair) {
		text, s := []byte("mingled"), rows.Seed(size(l), 24)
		pub := public(t, l, s)
		var publics, sigs [][][]byte
		for _, n := range all(l) {
			_, p, x := levelsByHand(t, l, s, n, text)
			publics, sigs = append(publics, p), append(sigs, x)
		}
		for n := range sigs {
			for m := range sigs {
				for upper := 1; upper < len(l); upper++ {
					sig := laid(slices.Concat(publics[n][:upper], publics[m][upper:]), slices.Concat(sigs[n][:upper], sigs[m][upper:]))
					same := slices.Equal(placesByHand(l, uint64(n))[:upper], placesByHand(l, uint64(m))[:upper])
					if got := hss.Fits(pub, text, sig); got != same {
						t.Errorf("P13.3: Fits, %v, the first %v levels of %v, the others of %v: %v", name(l), upper, n, m, got)
					}
				}
			}
		}
	})
}

// P13.3: each byte of a signature, and of a public key, turned: it doesn't fit. (With -short: some bytes of the signature between the edges of its parts.)
func TestEveryByte(t *testing.T) {
	each(t, [][]api.Pair{of(0, 1, 1), of(1, 2, 2), of(2, 1, 1), of(3, 1, 1), of(1, 1, 1, 1), {pair(3, 2, 1)}, {pair(1, 4, 2)}}, func(t *testing.T, l []api.Pair) {
		text, s := []byte("every byte"), rows.Seed(size(l), 25)
		pub, sig := public(t, l, s), sign(t, l, s, 1, text)
		keys, sigs := starts(l)
		fits(t, pub, text, sig, name(l))
		for at := range pub {
			none(t, rows.Turned(pub, at), text, sig, "a byte of the public key", name(l), at)
			flipped := bytes.Clone(pub)
			rows.Flip(flipped[at : at+1])
			none(t, flipped, text, sig, "a whole byte of the public key", name(l), at)
		}
		for at := range sig {
			edge := slices.ContainsFunc(slices.Concat(keys, sigs, []int{len(sig)}), func(x int) bool { return at > x-16 && at < x+72 })
			if edge || at%31 == 0 || !testing.Short() {
				none(t, pub, text, rows.Turned(sig, at), "a byte of the signature", name(l), at)
			}
		}
	})
}

// P13.3: a signature, and a public key, cut off at any place, with bytes more, and empty: it doesn't fit.
func TestOtherLengths(t *testing.T) {
	each(t, few(), func(t *testing.T, l []api.Pair) {
		text, s := []byte("lengths"), rows.Seed(size(l), 26)
		pub, sig := public(t, l, s), sign(t, l, s, 1, text)
		for n := range sig {
			none(t, pub, text, sig[:n], "bytes of the signature, spare room behind", name(l), n)
			none(t, pub, text, bytes.Clone(sig[:n]), "bytes of the signature", name(l), n)
			none(t, pub, text, sig[n+1:], "bytes of the signature, at its end", name(l), n)
		}
		for n := range pub {
			none(t, pub[:n], text, sig, "bytes of the public key, spare room behind", name(l), n)
			none(t, bytes.Clone(pub[:n]), text, sig, "bytes of the public key", name(l), n)
			none(t, pub[n+1:], text, sig, "bytes of the public key, at its end", name(l), n)
		}
		_, sigs := starts(l)
		for _, more := range [][]byte{{0}, {255}, number(0), make([]byte, size(l)), rows.Mixed(256, 27), sig, pub, sig[sigs[len(l)-1]:]} {
			none(t, pub, text, append(bytes.Clone(sig), more...), "a longer signature", name(l), len(more))
			none(t, append(bytes.Clone(pub), more...), text, sig, "a longer public key", name(l), len(more))
			none(t, pub, text, append(bytes.Clone(more), sig...), "more ahead of the signature", name(l), len(more))
			none(t, append(bytes.Clone(more), pub...), text, sig, "more ahead of the public key", name(l), len(more))
		}
		none(t, nil, text, sig, "no public key", name(l))
		none(t, pub, text, nil, "no signature", name(l))
		none(t, sig, text, pub, "in each other's place", name(l))
		none(t, pub[4:], text, sig[4:], "layer 12's", name(l))
		fits(t, rows.Guarded(pub), rows.Guarded(text), rows.Guarded(sig), "spare room", name(l))
	})
	none(t, nil, nil, nil, "nothing at all")
	none(t, number(0), nil, number(math.MaxUint32), "no levels")
	none(t, number(1), nil, number(0), "no key")
}

// counts: numbers of levels that may be told, and such as may not.
func counts() []uint32 {
	return []uint32{0, 1, 2, 3, 4, 5, 6, 7, 8, 9, 10, 16, 255, 256, 257, 258, 259, 1 << 16, 1<<16 + 2, 1 << 24, 1<<24 + 2, 2 << 24, 1 << 31, 1<<31 + 1, 1<<31 + 2, math.MaxUint32 - 1, math.MaxUint32}
}

// P13.3: how many levels written otherwise, in the public key, in the signature, or in both: it doesn't fit.
func TestOtherCounts(t *testing.T) {
	each(t, few(), func(t *testing.T, l []api.Pair) {
		text, s := []byte("counts"), rows.Seed(size(l), 28)
		pub, sig := public(t, l, s), sign(t, l, s, 0, text)
		for _, n := range counts() {
			for _, m := range append(counts(), n-1) {
				if int(n) == len(l) && int(m) == len(l)-1 {
					continue
				}
				none(t, with(pub, 0, n), text, with(sig, 0, m), "levels in the key, and in the signature", name(l), n, m)
			}
		}
	})
}

// P13.3: of what was signed each level fits with all below it, by a public key of its own, and tells its places; with fewer or more levels than its key says it doesn't.
func TestEachLevel(t *testing.T) {
	each(t, [][]api.Pair{of(1, 1, 1, 1, 1, 1, 1, 1, 1), of(0, 1, 1, 1), of(2, 1, 2), of(3, 1, 1, 1)}, func(t *testing.T, l []api.Pair) {
		text, n := []byte("each level"), hss.Total(l)-2
		_, publics, sigs := levelsByHand(t, l, rows.Seed(size(l), 29), n, text)
		places := placesByHand(l, n)
		for from := range l {
			for to := from + 1; to <= len(l); to++ {
				signs := text
				if to < len(l) {
					signs = publics[to]
				}
				pub, sig := append(number(to-from), publics[from]...), laid(publics[from:to], sigs[from:to])
				fits(t, pub, signs, sig, "levels", name(l), from, to)
				names(t, pub, sig, places[from:to], "levels", name(l), from, to)
				for _, other := range counts() {
					if int(other) != to-from {
						none(t, with(pub, 0, other), signs, sig, "more or fewer levels", name(l), from, to, other)
					}
				}
			}
		}
	})
}

// P13.3: nine levels and more, put together by hand so that each of them fits, don't; eight do.
func TestTooManyLevels(t *testing.T) {
	text := []byte("nine")
	for _, n := range []int{8, 9, 10, 16, 257} {
		l := slices.Repeat([]api.Pair{pair(1, 2, 1)}, n)
		_, publics, sigs := levelsByHand(t, l, rows.Seed(24, 30), 0, text)
		pub, sig := append(number(n), publics[0]...), laid(publics, sigs)
		if got := hss.Fits(pub, text, sig); got != (n == 8) {
			t.Errorf("P13.3: Fits, levels %v: %v", n, got)
		}
		if _, e := hss.Read(pub, sig); (e == api.OK) != (n == 8) || n > 8 && e != api.Malformed {
			t.Errorf("P13.3: Read, levels %v: %v", n, e)
		}
	}
}

// P13.3: codes of the key in a signature, and of the public key, that aren't their own, of every pair that may be, and of some that may not: it doesn't fit.
func TestOtherCodes(t *testing.T) {
	each(t, [][]api.Pair{of(0, 1, 1), of(1, 1, 2), of(2, 2, 1), of(3, 1, 1), of(1, 1, 1, 1)}, func(t *testing.T, l []api.Pair) {
		text, s := []byte("codes"), rows.Seed(size(l), 31)
		pub, sig := public(t, l, s), sign(t, l, s, 1, text)
		keys, sigs := starts(l)
		for _, p := range append(rows.Pairs(), rows.NoPairs()[:200]...) {
			if p != l[0] {
				none(t, with(with(pub, 4, p.Tree), 8, p.Ots), text, sig, "the top key's pair", name(l), p)
			}
			for i, at := range keys[1:] {
				if p == l[i+1] {
					continue
				}
				other := with(with(sig, at, p.Tree), at+4, p.Ots)
				none(t, pub, text, other, "a key's pair", name(l), i+1, p)
				o, _ := rows.SetsOf(l[i+1])
				treeAt := sigs[i+1] + 4 + once.Size(o)
				none(t, pub, text, with(with(other, sigs[i+1]+4, p.Ots), treeAt, p.Tree), "a key's pair, and its signature's", name(l), i+1, p)
			}
		}
		for i, at := range keys[1:] {
			none(t, pub, text, with(with(sig, at, l[i+1].Ots), at+4, l[i+1].Tree), "codes in each other's place", name(l), i+1)
		}
	})
}

// P13.3: a level that signed something else than the whole key below it, though that something is in it: it doesn't fit.
func TestOtherSigned(t *testing.T) {
	each(t, [][]api.Pair{of(0, 1, 1), of(1, 1, 1, 1), of(3, 2, 1)}, func(t *testing.T, l []api.Pair) {
		text, s := []byte("other"), rows.Seed(size(l), 32)
		seeds, publics, sigs := levelsByHand(t, l, s, 1, text)
		pub := public(t, l, s)
		fits(t, pub, text, laid(publics, sigs), "the whole key", name(l))
		for i := range len(l) - 1 {
			low := publics[i+1]
			for _, other := range [][]byte{nil, text, low[8:], low[24:], low[:24], low[:8], append(number(1), low...), append(number(len(l)-i-1), low...), append(bytes.Clone(low), 0), append(bytes.Clone(low), text...), publics[i], append(bytes.Clone(low), sigs[i+1]...)} {
				sig, e := lms.Sign(l[i], seeds[i], placesByHand(l, 1)[i], other)
				changed := slices.Clone(sigs)
				changed[i] = bytesOf(t, sig, e)
				none(t, pub, text, laid(publics, changed), "something else", name(l), i, len(other))
			}
		}
		sig, e := lms.Sign(l[len(l)-1], seeds[len(l)-1], placesByHand(l, 1)[len(l)-1], publics[len(l)-1])
		changed := slices.Clone(sigs)
		changed[len(l)-1] = bytesOf(t, sig, e)
		none(t, pub, text, laid(publics, changed), "the lowest key instead of the text", name(l))
	})
}

// P13.3: levels of unlike kinds, sizes, widths and heights, put together by hand, each of its own seed: the pairs may be, and each one fits, so all do.
func TestUnlikeLevels(t *testing.T) {
	each(t, [][]api.Pair{
		{pair(1, 4, 1), pair(0, 4, 1)}, {pair(0, 2, 1), pair(1, 2, 2)}, {pair(0, 2, 1), pair(2, 2, 1)}, {pair(3, 2, 1), pair(1, 2, 1)}, {pair(2, 1, 1), pair(1, 8, 1)},
		{pair(0, 1, 1), pair(1, 2, 2), pair(2, 4, 1), pair(3, 8, 1), pair(3, 1, 2), pair(2, 2, 1), pair(1, 4, 1), pair(0, 2, 1)},
	}, func(t *testing.T, l []api.Pair) {
		text := []byte("unlike")
		var publics, sigs [][]byte
		var places []uint32
		for i, p := range slices.Backward(l) {
			s, q, signs := rows.Seed(size(l[i:]), byte(33+i)), uint32(i)%uint32(leaves(p)), text
			if len(publics) > 0 {
				signs = publics[0]
			}
			public, e := lms.Public(p, s)
			sig, f := lms.Sign(p, s, q, signs)
			publics, sigs, places = slices.Insert(publics, 0, bytesOf(t, public, e)), slices.Insert(sigs, 0, bytesOf(t, sig, f)), slices.Insert(places, 0, q)
		}
		pub, sig := append(number(len(l)), publics[0]...), laid(publics, sigs)
		if hss.May(l) {
			t.Fatalf("P13.1: May(%v)", name(l))
		}
		fits(t, pub, text, sig, "unlike levels", name(l))
		names(t, pub, sig, places, "unlike levels", name(l))
		none(t, pub, []byte("unlikes"), sig, "unlike levels, another text", name(l))
		_, at := starts(l)
		for i := range l {
			none(t, pub, text, rows.Turned(sig, at[i]+8), "unlike levels, a salt", name(l), i)
		}
	})
}

// oneByHand: a public key of layer 12, and a signature by it, put together by hand from layers 10 and 11: one leaf's key, and a way that nobody made. So the tree may be of any height.
func oneByHand(t *testing.T, p api.Pair, s api.Seed, q uint32, text []byte) (public, sig []byte) {
	t.Helper()
	o, tree := rows.SetsOf(p)
	way := rows.Mixed(tree.N*tree.H, byte(q+41))
	root, e := merkle.Climb(tree, s.Name, q, once.Key(o, s, q), slices.Collect(slices.Chunk(way, tree.N)))
	if e != api.OK {
		t.Fatalf("layer 11: %v", e)
	}
	codes := binary.BigEndian.AppendUint32(binary.BigEndian.AppendUint32(nil, p.Tree), p.Ots)
	public = slices.Concat(codes, s.Name, root)
	sig = slices.Concat(number(int(q)), rows.Bare(o, s, q, text), codes[:4], way)
	return public, sig
}

// anyByHand: a public key and a signature of levels at any places, put together by hand, of trees of any height.
func anyByHand(t *testing.T, l []api.Pair, places []uint32, text []byte) (pub, sig []byte) {
	t.Helper()
	var publics, sigs [][]byte
	for i, p := range slices.Backward(l) {
		public, sig := oneByHand(t, p, rows.Seed(size(l[i:]), byte(50+i)), places[i], text)
		publics, sigs, text = slices.Insert(publics, 0, public), slices.Insert(sigs, 0, sig), public
	}
	return append(number(len(l)), publics[0]...), laid(publics, sigs)
}

// P13.3: levels of trees that can't be made, put together by hand: at the top, below, in all of them, and of more than 60 together: it fits, and names its places.
func TestHighTrees(t *testing.T) {
	var list [][]api.Pair
	for sort := range sumCount {
		list = append(list, of(sort, 15), of(sort, 20), of(sort, 25), of(sort, 15, 1), of(sort, 1, 15), of(sort, 25, 5, 10), of(sort, 2, 20, 3), of(sort, 25, 25, 10), of(sort, 25, 25, 25), of(sort, 25, 25, 25, 25, 25, 25, 25, 25))
	}
	list = append(list, []api.Pair{pair(1, 8, 25), pair(3, 8, 15)})
	each(t, list, func(t *testing.T, l []api.Pair) {
		text := []byte("by hand")
		first, last, between := make([]uint32, len(l)), make([]uint32, len(l)), make([]uint32, len(l))
		for i, p := range l {
			last[i] = uint32(leaves(p) - 1)
			between[i] = uint32(i+1) * last[i] / 9
		}
		for _, places := range [][]uint32{first, last, between} {
			pub, sig := anyByHand(t, l, places, text)
			fits(t, pub, text, sig, "by hand", name(l), places)
			names(t, pub, sig, places, "by hand", name(l), places)
			none(t, pub, []byte("by hands"), sig, "another text", name(l), places)
			_, at := starts(l)
			for i, p := range l {
				none(t, pub, text, with(sig, at[i], places[i]^1), "the leaf beside", name(l), places, i)
				beyond := with(sig, at[i], places[i]+uint32(leaves(p)))
				none(t, pub, text, beyond, "a leaf beyond", name(l), places, i)
				told := slices.Clone(places)
				told[i] += uint32(leaves(p))
				names(t, pub, beyond, told, "a leaf beyond", name(l), places, i)
			}
			none(t, pub, text, rows.Turned(sig, len(sig)-1), "the lowest way's end", name(l), places)
			none(t, rows.Turned(pub, len(pub)-1), text, sig, "the root", name(l), places)
		}
	})
}

// P13.3: texts of MaxText bytes fit, and longer ones don't, though all else is as it must be.
func TestFitsLongTexts(t *testing.T) {
	long := rows.Mixed(2*api.MaxText+1, 43)
	each(t, [][]api.Pair{of(0, 1), of(1, 1, 1), of(2, 2, 15), of(3, 1, 1, 1)}, func(t *testing.T, l []api.Pair) {
		for _, n := range []int{0, 6, api.MaxText - 1, api.MaxText, api.MaxText + 1, api.MaxText + 2, 2 * api.MaxText} {
			places := make([]uint32, len(l))
			pub, sig := anyByHand(t, l, places, long[:n])
			if got := hss.Fits(pub, long[:n], sig); got != (n <= api.MaxText) {
				t.Errorf("P13.3: Fits, %v, bytes of text %v: %v", name(l), n, got)
			}
			names(t, pub, sig, places, "bytes of text", name(l), n)
			none(t, pub, long[:n+1], sig, "a byte of text more", name(l), n)
		}
	})
}

// P13.3: what nobody signed, of the right length and with the right codes, doesn't fit.
func TestAnyBytes(t *testing.T) {
	for _, l := range few() {
		s := rows.Seed(size(l), 44)
		pub := public(t, l, s)
		n := len(sign(t, l, s, 0, nil))
		keys, sigs := starts(l)
		for _, b := range [][]byte{make([]byte, n), bytes.Repeat([]byte{255}, n), rows.Mixed(n, 45)} {
			none(t, pub, nil, b, "any bytes", name(l))
			b = with(b, 0, uint32(len(l)-1))
			for i, p := range l {
				b = with(with(b, sigs[i], 0), sigs[i]+4, p.Ots)
				if i > 0 {
					b = with(with(b, keys[i], p.Tree), keys[i]+4, p.Ots)
				}
			}
			none(t, pub, nil, b, "any bytes, the right codes", name(l))
			names(t, pub, b, make([]uint32, len(l)), "any bytes, the right codes", name(l))
		}
	}
}
