package lms_test

import (
	"bytes"
	"encoding/binary"
	"math"
	"slices"
	"testing"

	"tearoff/api"
	"tearoff/chain"
	"tearoff/lms"
	"tearoff/merkle"
	"tearoff/once"
	"tearoff/rows"
)

// none tells where a signature fits.
func none(t *testing.T, public, text, sig []byte, what ...any) {
	t.Helper()
	if lms.Fits(public, text, sig) {
		t.Errorf("P12.2: Fits, %v", what)
	}
}

// with: b with a number of 4 bytes at a place, in memory of its own.
func with(b []byte, at int, v uint32) []byte {
	out := bytes.Clone(b)
	binary.BigEndian.PutUint32(out[at:], v)
	return out
}

// treeAt: where in a signature the tree's code stands.
func (f family) treeAt() int { return 4 + 4 + f.o.N*(f.o.P+1) }

// P12.3: what was signed at a leaf fits its own text, leaf and key, and no others.
func TestFitsNothingElse(t *testing.T) {
	each(t, few(), func(t *testing.T, f family) {
		text, s := rows.Mixed(20, 21), rows.Seed(f.o.N, 22)
		pub, elsewhere := public(t, f, s), public(t, f, rows.Seed(f.o.N, 23))
		renamed := public(t, f, api.Seed{Name: rows.Turned(s.Name, 0), Secret: s.Secret})
		for _, q := range f.all() {
			sig := sign(t, f, s, q, text)
			fits(t, pub, text, sig, f.pair, q)
			for i := range text {
				none(t, pub, rows.Turned(text, i), sig, "a byte of the text", f.pair, q, i)
			}
			for _, other := range [][]byte{nil, text[:19], text[1:], append(bytes.Clone(text), 0), append([]byte{0}, text...), append(bytes.Clone(text), text...)} {
				none(t, pub, other, sig, "another text", f.pair, q, len(other))
			}
			for _, p := range append(f.all(), f.beyond()...) {
				if p != q {
					none(t, pub, text, with(sig, 0, p), "another leaf", f.pair, q, p)
				}
			}
			none(t, elsewhere, text, sig, "another seed's key", f.pair, q)
			none(t, renamed, text, sig, "another name's key", f.pair, q)
		}
	})
}

// P12.3: what was signed at one leaf doesn't fit with the way, or with the one-time signature, of another.
func TestFitsMingled(t *testing.T) {
	each(t, few(), func(t *testing.T, f family) {
		text := []byte("mingled")
		h := byHand(f, rows.Seed(f.o.N, 24))
		for _, q := range f.all() {
			first, way := once.Sign(f.o, h.s, q, text), merkle.Way(f.t, h.s.Name, h.keys, q)
			fits(t, h.made(), text, f.sig(q, first, way), "as it is", f.pair, q)
			for _, p := range f.all() {
				if p == q {
					continue
				}
				none(t, h.made(), text, f.sig(q, first, merkle.Way(f.t, h.s.Name, h.keys, p)), "another leaf's way", f.pair, q, p)
				none(t, h.made(), text, f.sig(q, once.Sign(f.o, h.s, p, text), way), "another leaf's one-time signature", f.pair, q, p)
				none(t, h.made(), text, f.sig(q, once.Sign(f.o, h.s, p, text), merkle.Way(f.t, h.s.Name, h.keys, p)), "another leaf's number", f.pair, q, p)
			}
			slices.Reverse(way)
			if f.t.H > 1 {
				none(t, h.made(), text, f.sig(q, first, way), "the way from its end on", f.pair, q)
			}
		}
	})
}

// P12.2: each byte of a signature, and of a public key, turned: it doesn't fit. (Of the widths 1 and 8, and with -short: some bytes between the edges.)
func TestEveryByte(t *testing.T) {
	list := high(2, 2)
	if len(list) != 16 {
		t.Fatalf("%v pairs of height 2", len(list))
	}
	each(t, list, func(t *testing.T, f family) {
		text, s := []byte("every byte"), rows.Seed(f.o.N, 25)
		pub, sig := public(t, f, s), sign(t, f, s, 2, text)
		fits(t, pub, text, sig, f.pair)
		for at := range pub {
			none(t, rows.Turned(pub, at), text, sig, "a byte of the public key", f.pair, at)
			flipped := bytes.Clone(pub)
			rows.Flip(flipped[at : at+1])
			none(t, flipped, text, sig, "a whole byte of the public key", f.pair, at)
		}
		step := 1
		if testing.Short() || f.o.W == 1 || f.o.W == 8 {
			step = 23
		}
		for at := range sig {
			edge := at < 8+f.o.N || at >= f.treeAt()-1
			if edge || at%step == 0 {
				none(t, pub, text, rows.Turned(sig, at), "a byte of the signature", f.pair, at)
			}
		}
	})
}

// P12.2: a signature, and a public key, cut off at any place, with bytes more, and empty: it doesn't fit.
func TestOtherLengths(t *testing.T) {
	each(t, few(), func(t *testing.T, f family) {
		text, s := []byte("lengths"), rows.Seed(f.o.N, 26)
		pub, sig := public(t, f, s), sign(t, f, s, 1, text)
		for n := range sig {
			none(t, pub, text, sig[:n], "bytes of the signature, spare room behind", f.pair, n)
			none(t, pub, text, bytes.Clone(sig[:n]), "bytes of the signature", f.pair, n)
			none(t, pub, text, sig[n+1:], "bytes of the signature, at its end", f.pair, n)
		}
		for n := range pub {
			none(t, pub[:n], text, sig, "bytes of the public key, spare room behind", f.pair, n)
			none(t, bytes.Clone(pub[:n]), text, sig, "bytes of the public key", f.pair, n)
			none(t, pub[n+1:], text, sig, "bytes of the public key, at its end", f.pair, n)
		}
		for _, more := range [][]byte{{0}, {255}, {0, 0, 0, 0}, make([]byte, f.o.N), rows.Mixed(256, 27), sig, pub} {
			none(t, pub, text, append(bytes.Clone(sig), more...), "a longer signature", f.pair, len(more))
			none(t, append(bytes.Clone(pub), more...), text, sig, "a longer public key", f.pair, len(more))
			none(t, pub, text, append(bytes.Clone(more), sig...), "more ahead of the signature", f.pair, len(more))
			none(t, append(bytes.Clone(more), pub...), text, sig, "more ahead of the public key", f.pair, len(more))
		}
		none(t, nil, nil, nil, "nothing at all")
		none(t, nil, text, sig, "no public key")
		none(t, pub, text, nil, "no signature")
		none(t, sig, text, pub, "in each other's place")
		fits(t, rows.Guarded(pub), rows.Guarded(text), rows.Guarded(sig), "spare room", f.pair)
	})
}

// P12.2: each byte between the parts taken away, with one more at the end, so that the length is right: it doesn't fit.
func TestMoved(t *testing.T) {
	for _, f := range few() {
		text, s := []byte("moved"), rows.Seed(f.o.N, 28)
		pub, sig := public(t, f, s), sign(t, f, s, 1, text)
		for _, at := range []int{0, 4, 8, 8 + f.o.N, f.treeAt(), f.treeAt() + 4} {
			none(t, pub, text, append(slices.Delete(bytes.Clone(sig), at, at+1), 0), "moved to the beginning", f.pair, at)
			none(t, pub, text, slices.Insert(bytes.Clone(sig), at, 0)[:len(sig)], "moved to the end", f.pair, at)
		}
	}
}

// P12.2: codes in a signature that aren't those of the public key, all others than its own: it doesn't fit.
func TestOtherCodesInSignature(t *testing.T) {
	codes := []uint32{0, 17, 18, 25, 255, 256, 0xf0000000, 0xf0000011, 1 << 31, math.MaxUint32}
	for _, o := range rows.Sets() {
		codes = append(codes, o.Code, o.Code+256, o.Code+1<<16, o.Code+1<<24)
	}
	for _, s := range rows.Trees() {
		codes = append(codes, s.Code)
	}
	each(t, few(), func(t *testing.T, f family) {
		text, s := []byte("codes"), rows.Seed(f.o.N, 29)
		pub, sig := public(t, f, s), sign(t, f, s, 0, text)
		for _, code := range codes {
			if code != f.t.Code {
				none(t, pub, text, with(sig, f.treeAt(), code), "the tree's code", f.pair, code)
			}
			if code != f.o.Code {
				none(t, pub, text, with(sig, 4, code), "the one-time set's code", f.pair, code)
			}
		}
		none(t, pub, text, with(with(sig, 4, f.t.Code), f.treeAt(), f.o.Code), "codes in each other's place", f.pair)
	})
}

// P12.2: codes in a public key that aren't those of the signature, whether their pair may be or not: it doesn't fit, nor with such codes in both.
func TestOtherCodesInPublic(t *testing.T) {
	each(t, few(), func(t *testing.T, f family) {
		text, s := []byte("codes"), rows.Seed(f.o.N, 30)
		pub, sig := public(t, f, s), sign(t, f, s, 0, text)
		for _, o := range rows.Sets() {
			for _, tree := range rows.Trees() {
				if o.Code == f.o.Code && tree.Code == f.t.Code {
					continue
				}
				other := with(with(pub, 0, tree.Code), 4, o.Code)
				none(t, other, text, sig, "other codes", f.pair, o.Code, tree.Code)
				none(t, other, text, with(with(sig, 4, o.Code), f.treeAt(), tree.Code), "other codes in both", f.pair, o.Code, tree.Code)
			}
		}
		none(t, with(with(pub, 0, f.o.Code), 4, f.t.Code), text, sig, "codes in each other's place", f.pair)
	})
}

// P12.2: a tree whose keys are of another width than the public key's code tells: what they sign doesn't fit, whichever of the two codes the signature has.
func TestOtherWidth(t *testing.T) {
	for _, f := range high(1, 2) {
		text, h := []byte("width"), byHand(f, rows.Seed(f.o.N, 31))
		pub, sig := h.made(), h.signed(1, text)
		fits(t, pub, text, sig, "as it is", f.pair)
		for _, o := range rows.Sets() {
			if o.Code == f.o.Code || o.Kind != f.o.Kind || o.N != f.o.N {
				continue
			}
			none(t, with(pub, 4, o.Code), text, sig, "another width in the public key", f.pair, o.Code)
			none(t, with(pub, 4, o.Code), text, with(sig, 4, o.Code), "another width in both", f.pair, o.Code)
		}
	}
}

// other: the set of the other kind whose signatures have as many bytes.
func (f family) other() api.Ots {
	for _, o := range rows.Sets() {
		if o.Kind != f.o.Kind && o.N == f.o.N && o.W == f.o.W {
			return o
		}
	}
	panic("no set of the other kind")
}

// P12.2: a tree over keys of the other kind, whose signatures are as long: what they sign leads to the root, but doesn't fit, since its code isn't the public key's.
func TestOtherKind(t *testing.T) {
	for _, f := range few() {
		text, s, o := []byte("kind"), rows.Seed(f.o.N, 37), f.other()
		h := hand{family: f, s: s}
		for q := range f.leaves() {
			h.keys = append(h.keys, once.Key(o, s, q))
		}
		for q := range f.leaves() {
			sig := f.sig(q, once.Sign(o, s, q, text), merkle.Way(f.t, s.Name, h.keys, q))
			none(t, h.made(), text, sig, "keys of the other kind", f.pair, q)
			none(t, h.made(), text, with(sig, 4, f.o.Code), "keys of the other kind, by the public key's code", f.pair, q)
			none(t, with(h.made(), 4, o.Code), text, sig, "sets that don't go together", f.pair, q)
		}
	}
}

// P12.2: texts of MaxText bytes fit, and longer ones don't, though all else is as it must be.
func TestFitsLongTexts(t *testing.T) {
	long := rows.Mixed(2*api.MaxText, 32)
	each(t, few(), func(t *testing.T, f family) {
		h := byHand(f, rows.Seed(f.o.N, 33))
		way := merkle.Way(f.t, h.s.Name, h.keys, 1)
		for _, n := range []int{0, 6, api.MaxText - 1, api.MaxText} {
			fits(t, h.made(), long[:n], f.sig(1, rows.Bare(f.o, h.s, 1, long[:n]), way), "bytes of text", f.pair, n)
		}
		for _, n := range []int{api.MaxText + 1, api.MaxText + 2, 2 * api.MaxText} {
			none(t, h.made(), long[:n], f.sig(1, rows.Bare(f.o, h.s, 1, long[:n]), way), "bytes of text", f.pair, n)
		}
	})
}

// climbed: where the key of a leaf and a way lead, whatever the leaf's number is, put together by hand from layer 9.
func (f family) climbed(name []byte, q uint32, key []byte, way [][]byte) []byte {
	place := f.leaves() + q
	sum := chain.Part(f.t.Kind, f.t.N, name, place, 0x8282, key)
	for _, beside := range way {
		left, right := sum, beside
		if place%2 == 1 {
			left, right = beside, sum
		}
		place /= 2
		sum = chain.Part(f.t.Kind, f.t.N, name, place, 0x8383, left, right)
	}
	return sum
}

// chunks: a way of mixed sums that nobody made.
func (f family) chunks(start byte) [][]byte {
	return slices.Collect(slices.Chunk(rows.Mixed(f.t.N*f.t.H, start), f.t.N))
}

// P12.2: of every pair that may be, those of trees higher than 10 too, a signature put together by hand fits, whoever made its way; of leaves that there aren't none does.
func TestEveryPairFits(t *testing.T) {
	each(t, families(), func(t *testing.T, f family) {
		text, s, way := []byte("by hand"), rows.Seed(f.o.N, 34), f.chunks(35)
		for _, q := range f.edges() {
			first := once.Sign(f.o, s, q, text)
			pub := f.public(s.Name, f.climbed(s.Name, q, once.Key(f.o, s, q), way))
			sig := f.sig(q, first, way)
			fits(t, pub, text, sig, "by hand", f.pair, q)
			none(t, pub, []byte("by hands"), sig, "another text", f.pair, q)
			none(t, pub, text, with(sig, 0, q^1), "the leaf beside", f.pair, q)
			none(t, pub, text, with(sig, 0, q+f.leaves()), "a leaf beyond", f.pair, q)
			none(t, pub, text, with(sig, 0, q+1<<31), "a leaf beyond", f.pair, q)
			for _, at := range []int{24, len(pub) - 1} {
				none(t, rows.Turned(pub, at), text, sig, "a byte of the root", f.pair, q, at)
			}
			for _, h := range []int{0, f.t.H - 1} {
				none(t, pub, text, rows.Turned(sig, f.treeAt()+4+f.t.N*h), "a byte of the way", f.pair, q, h)
			}
		}
		for _, q := range f.beyond() {
			sig := f.sig(q, once.Sign(f.o, s, q, text), way)
			for _, at := range []uint32{q, q % f.leaves()} {
				pub := f.public(s.Name, f.climbed(s.Name, at, once.Key(f.o, s, q), way))
				none(t, pub, text, sig, "a leaf beyond, by hand", f.pair, q, at)
			}
		}
	})
}

// P12.2: what nobody signed, of the right length and with the right codes, doesn't fit.
func TestAnyBytes(t *testing.T) {
	for _, f := range few() {
		pub := f.public(make([]byte, 16), make([]byte, f.o.N))
		for _, b := range [][]byte{make([]byte, f.sigLen()), bytes.Repeat([]byte{255}, f.sigLen()), rows.Mixed(f.sigLen(), 36)} {
			none(t, pub, nil, b, "any bytes", f.pair)
			none(t, pub, nil, with(with(with(b, 0, 0), 4, f.o.Code), f.treeAt(), f.t.Code), "any bytes, the right codes", f.pair)
		}
	}
}
