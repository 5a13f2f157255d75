package slh_test

import (
	"bytes"
	"fmt"
	"math"
	"slices"
	"testing"

	"tearoff/api"
	"tearoff/rows"
	"tearoff/slh"
)

// expectFits tells where a signature of a text, its salt changed, does otherwise with another text than it must: it fits just if the digest is alike in all bits that tell, as it may be where there are few of these.
func expectFits(t *testing.T, f api.Few, public, text, sig, salt, other []byte) {
	t.Helper()
	changed := slices.Concat(salt, sig[f.N:])
	want := picked(f, salt, public, other) == picked(f, row(f, sig, 0), public, text)
	if got := slh.Fits(f, public, other, changed); got != want {
		t.Errorf("P18.3: Fits, %v, the text %.20q for %.20q, the salt %x for %x: %v", f, other, text, salt, sig[:f.N], got)
	}
}

// picked: what a digest tells, of each bit that does.
func picked(f api.Few, salt, public, text []byte) string {
	picks, tree, q := parted(f, wide(digestLen(f), salt, public, text))
	return fmt.Sprint(rows.Bits(picks)[:f.K*f.A], tree, q)
}

// P18.3: of sets whose digests have few bits that tell, just those texts, and those salts, fit that have the same ones: some of many do.
func TestFewBits(t *testing.T) {
	for _, f := range []api.Few{{N: 16, Layers: 1, Height: 1, K: 1, A: 1}, {N: 32, Layers: 2, Height: 1, K: 1, A: 2}, {N: 24, Layers: 1, Height: 3, K: 2, A: 1}} {
		m, text, count := rows.MaskedOf(f.N, 84), []byte("bits"), 0
		pub, sig := slh.Public(f, m), sign(t, f, m, m.Seed, text)
		for i := range byte(200) {
			other := []byte{i}
			expectFits(t, f, pub, text, sig, row(f, sig, 0), other)
			expectFits(t, f, pub, text, sig, rows.Mixed(f.N, i), text)
			if slh.Fits(f, pub, other, sig) {
				count++
			}
		}
		if count == 0 || count > 100 {
			t.Errorf("%v: of 200 texts %v fit", f, count)
		}
	}
}

// P18.4: what was signed fits, whatever the extra is, of many secrets; it fits no other text, and no other key.
func TestSignedFits(t *testing.T) {
	text := []byte("signed")
	for _, f := range few() {
		elsewhere := slh.Public(f, rows.MaskedOf(f.N, 61))
		for _, m := range rows.MaskedsOf(f.N) {
			pub := slh.Public(f, m)
			for _, extra := range [][]byte{rows.Guarded(rows.Mixed(f.N, 62)), m.Seed, make([]byte, f.N), bytes.Repeat([]byte{255}, f.N)} {
				sig := sign(t, f, m, extra, text)
				fits(t, f, pub, text, sig, "P18.4")
				expectFits(t, f, pub, text, sig, row(f, sig, 0), []byte("signer"))
				none(t, f, elsewhere, text, sig, "another key")
			}
			sig := sign(t, f, m, m.Seed, text)
			fits(t, f, rows.Guarded(pub), rows.Guarded(text), rows.Guarded(sig), "spare room")
		}
	}
}

// P18.4: the same of many extras and texts of one key.
func TestManyFit(t *testing.T) {
	f, m := api.Few{N: 16, Layers: 4, Height: 1, K: 3, A: 3}, rows.MaskedOf(16, 64)
	pub := slh.Public(f, m)
	for i := range byte(150) {
		fits(t, f, pub, rows.Mixed(int(i), i), sign(t, f, m, rows.Mixed(16, i+1), rows.Mixed(int(i), i)), "P18.4", i)
	}
}

// P18.3: another text than the one that was signed.
func TestOtherTexts(t *testing.T) {
	f, m, text := api.Few{N: 24, Layers: 2, Height: 1, K: 6, A: 3}, rows.MaskedOf(24, 65), rows.Mixed(40, 66)
	pub, sig := slh.Public(f, m), sign(t, f, m, m.Seed, text)
	for bit := range 8 * len(text) {
		none(t, f, pub, rows.TurnedBit(text, bit), sig, "a bit of the text turned", bit)
	}
	for _, other := range [][]byte{nil, {0}, text[:39], text[1:], append(bytes.Clone(text), 0), append([]byte{0}, text...), append(bytes.Clone(text), text...), make([]byte, 40), make([]byte, api.MaxText)} {
		none(t, f, pub, other, sig, "another text", len(other))
	}
	fits(t, f, pub, text, sig)
}

// P18.3: texts of MaxText bytes, and of more, which fit no signature: not even one that would fit otherwise.
func TestTooLongTexts(t *testing.T) {
	for _, f := range []api.Few{{N: 16, Layers: 1, Height: 1, K: 1, A: 1}, {N: 24, Layers: 3, Height: 2, K: 40, A: 14}, {N: 32, Layers: 2, Height: 7, K: 1, A: 1}} {
		for _, n := range []int{api.MaxText - 1, api.MaxText} {
			g := forge(f, 67, rows.Mixed(n, 68))
			fits(t, f, g.public, rows.Mixed(n, 68), g.sig(), "bytes of the text", n)
		}
		for _, n := range []int{api.MaxText + 1, api.MaxText + 2, 2 * api.MaxText, 1 << 20} {
			g := forge(f, 67, rows.Mixed(n, 68))
			none(t, f, g.public, rows.Mixed(n, 68), g.sig(), "bytes of the text", n)
		}
	}
}

// P18.3: public keys that haven't 2N bytes, each length; such whose bytes would be the right ones among them.
func TestPublicLengths(t *testing.T) {
	for _, f := range few() {
		m, text := rows.MaskedOf(f.N, 69), []byte("text")
		pub, sig := slh.Public(f, m), sign(t, f, m, m.Seed, text)
		for n := range pub {
			none(t, f, pub[:n], text, sig, "bytes of the public key, spare room behind", n)
			none(t, f, bytes.Clone(pub[:n]), text, sig, "bytes of the public key", n)
			none(t, f, pub[n+1:], text, sig, "bytes of the public key, at its end", n)
		}
		for _, more := range [][]byte{{0}, {255}, make([]byte, f.N), rows.Mixed(2*f.N, 70), rows.Mixed(256, 70), pub, sig, rows.Mixed(1<<16, 70)} {
			none(t, f, append(bytes.Clone(pub), more...), text, sig, "a longer public key", len(more))
			none(t, f, append(bytes.Clone(more), pub...), text, sig, "more ahead of the public key", len(more))
		}
		none(t, f, nil, text, sig, "no public key")
		none(t, f, sig, text, pub, "in each other's place")
		fits(t, f, pub, text, sig)
	}
}

// P18.3: signatures that haven't Size bytes, each length; such whose bytes would be the right ones among them.
func TestSignatureLengths(t *testing.T) {
	for _, f := range few() {
		m, text := rows.MaskedOf(f.N, 71), []byte("text")
		pub, sig := slh.Public(f, m), sign(t, f, m, m.Seed, text)
		for n := range sig {
			none(t, f, pub, text, sig[:n], "bytes of the signature, spare room behind", n)
			none(t, f, pub, text, sig[n+1:], "bytes of the signature, at its end", n)
		}
		for _, more := range [][]byte{{0}, {255}, make([]byte, f.N), rows.Mixed(partLen(f), 72), rows.Mixed(256, 72), sig, pub, rows.Mixed(1<<16, 72)} {
			none(t, f, pub, text, append(bytes.Clone(sig), more...), "a longer signature", len(more))
			none(t, f, pub, text, append(bytes.Clone(more), sig...), "more ahead of the signature", len(more))
		}
		none(t, f, pub, text, bytes.Clone(sig[:len(sig)-1]), "a byte fewer")
		none(t, f, pub, text, nil, "no signature")
		fits(t, f, pub, text, sig)
	}
}

// P18.3: a bit turned, in each row of a signature: its salt, what is told, and of each layer each chain and each sum of the way; and each byte of the public key.
func TestTurned(t *testing.T) {
	for i, f := range few() {
		m, text := rows.MaskedOf(f.N, 73), []byte("turned")
		pub, sig := slh.Public(f, m), sign(t, f, m, m.Salt, text)
		fits(t, f, pub, text, sig)
		for at := range f.N {
			expectFits(t, f, pub, text, sig, rows.TurnedBit(row(f, sig, 0), 8*at+(at+i)%8), text)
		}
		for r := 1; r < len(sig)/f.N; r++ {
			none(t, f, pub, text, rows.TurnedBit(sig, 8*f.N*r+(7*r+i)%(8*f.N)), "a bit of a row turned", r)
		}
		for at := range pub {
			none(t, f, rows.Turned(pub, at), text, sig, "a byte of the public key turned", at)
		}
	}
}

// P18.3: each byte of a signature, each bit of a row of each kind, and of the public key. (With -short: of fewer of them.)
func TestTurnedBits(t *testing.T) {
	f, text := api.Few{N: 16, Layers: 2, Height: 1, K: 6, A: 4}, []byte("turned bits")
	m, step := rows.MaskedOf(16, 74), 1
	pub, sig := slh.Public(f, m), sign(t, f, m, m.Seed, text)
	if testing.Short() {
		step = 31
	}
	for at := 0; at < len(sig); at += step {
		none(t, f, pub, text, rows.TurnedBit(sig, 8*at+at%8), "a bit of a byte turned", at)
	}
	// The salt, a secret told, the last sum told with it, the first chain, a chain of the digits' lack, and a way of each layer.
	below := 16 + toldLen(f)
	for _, at := range []int{0, 16, below - 16, below, below + 34*16, below + 35*16, len(sig) - 35*16, len(sig) - 16} {
		for bit := 8 * at; bit < 8*(at+16); bit += step {
			none(t, f, pub, text, rows.TurnedBit(sig, bit), "a bit turned", bit)
		}
	}
	for bit := 0; bit < 8*len(pub); bit += step {
		none(t, f, rows.TurnedBit(pub, bit), text, sig, "a bit of the public key turned", bit)
	}
}

// P18.3: parts of a signature that change their places.
func TestMoved(t *testing.T) {
	f, text := api.Few{N: 24, Layers: 2, Height: 2, K: 2, A: 3}, []byte("moved")
	m := rows.MaskedOf(24, 75)
	pub := slh.Public(f, m)
	for i := range byte(8) {
		sig := sign(t, f, m, rows.Mixed(24, i), text)
		told, low := 24, 24+toldLen(f)
		way, high := low+24*51, low+partLen(f)
		for what, c := range map[string]struct{ a, b, length int }{
			"salt and a secret":      {0, told, 24},
			"what two digits tell":   {told, told + 4*24, 4 * 24},
			"a secret and a sum":     {told, told + 24, 24},
			"what is told, and more": {told, low, toldLen(f)},
			"two chains":             {low, low + 24, 24},
			"sums of the way":        {way, way + 24, 24},
			"ways":                   {way, high + 24*51, 2 * 24},
			"chains of layers":       {low, high, 51 * 24},
			"layers":                 {low, high, partLen(f)},
		} {
			moved := bytes.Clone(sig)
			copy(moved[c.a:], sig[c.b:c.b+c.length])
			copy(moved[c.b:], sig[c.a:c.a+c.length])
			if bytes.Equal(moved, sig) {
				t.Errorf("%v: alike", what)
			}
			none(t, f, pub, text, moved, what, "exchanged", i)
		}
		none(t, f, append(bytes.Clone(pub[24:]), pub[:24]...), text, sig, "seed and root exchanged", i)
	}
}

// P18.3: of another set what was signed doesn't fit: of sets of the same size too, nor do its bytes, with such as lack put behind, or those too many cut.
func TestOtherSet(t *testing.T) {
	text := []byte("sets")
	list := append(few(), rows.HighFews()...)
	list = append(list, api.Few{N: 16, Layers: 1, Height: 2, K: 2, A: 3}, api.Few{N: 16, Layers: 1, Height: 2, K: 4, A: 1}, api.Few{N: 16, Layers: 2, Height: 2, K: 4, A: 7}, api.Few{N: 16, Layers: 2, Height: 1, K: 2, A: 16 - 4}, api.Few{N: 24, Layers: 3, Height: 1, K: 10, A: 2})
	for _, f := range few() {
		m := rows.MaskedOf(f.N, 76)
		pub, sig := slh.Public(f, m), sign(t, f, m, m.Seed, text)
		long := append(bytes.Clone(sig), make([]byte, 1<<17)...)
		for _, other := range append(list, rows.NoFews()...) {
			if other == f {
				continue
			}
			none(t, other, pub, text, sig, "of another set", f)
			none(t, other, pub, text, long[:slh.Size(other)], "of another set, of its length", f)
		}
		for _, turn := range []func(f *api.Few){func(f *api.Few) { f.K++ }, func(f *api.Few) { f.A++ }, func(f *api.Few) { f.Layers++ }, func(f *api.Few) { f.Height++ }, func(f *api.Few) { f.K, f.A = f.A+1, f.K-1 }} {
			other := f
			turn(&other)
			if other == f {
				continue
			}
			none(t, other, pub, text, sig, "of the next set", f)
			none(t, other, pub, text, long[:slh.Size(other)], "of the next set, of its length", f)
		}
	}
}

// P18.3: of a set that may not be nothing fits: not an empty row, and not what would fit if it were.
func TestFitsNoSet(t *testing.T) {
	text := []byte("no set")
	for _, f := range rows.NoFews() {
		for _, n := range []int{0, 32, 48, 64} {
			for _, sig := range [][]byte{nil, {}, make([]byte, 16), make([]byte, 624), rows.Mixed(2000, 77)} {
				none(t, f, rows.Mixed(n, 78), nil, sig, "bytes of the signature", len(sig))
			}
		}
	}
	for _, f := range []api.Few{{N: 16, Layers: 23, Height: 1, K: 1, A: 1}, {N: 24, Layers: 23, Height: 2, K: 1, A: 1}, {N: 32, Layers: 17, Height: 4, K: 1, A: 1}, {N: 16, Layers: 9, Height: 8, K: 1, A: 1}, {N: 16, Layers: 1, Height: 10, K: 1, A: 1}} {
		g := forge(f, 79, text)
		none(t, f, g.public, text, g.sig(), "what would fit")
	}
}

// P18.3: any bytes: none fits, and the call ends.
func TestAnyBytes(t *testing.T) {
	for _, f := range append(few(), rows.HighFews()...) {
		n := slh.Size(f)
		for _, b := range [][]byte{make([]byte, n), bytes.Repeat([]byte{255}, n), rows.Mixed(n, 82)} {
			for _, pub := range [][]byte{make([]byte, 2*f.N), bytes.Repeat([]byte{255}, 2*f.N), rows.Mixed(2*f.N, 83)} {
				none(t, f, pub, nil, b, "any bytes")
			}
		}
	}
	for _, f := range []api.Few{{N: 16, Layers: math.MaxInt, Height: 1, K: 1, A: 1}, {N: 16, Layers: 1, Height: math.MaxInt, K: 1, A: 1}, {N: math.MinInt, Layers: math.MinInt, Height: math.MinInt, K: math.MinInt, A: math.MinInt}} {
		none(t, f, make([]byte, 32), nil, make([]byte, 624), "the greatest and the least numbers")
	}
}
