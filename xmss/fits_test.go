package xmss_test

import (
	"bytes"
	"math"
	"slices"
	"testing"

	"tearoff/api"
	"tearoff/rows"
	"tearoff/xmss"
)

// P16.4: what was signed fits, at every index of some shapes, two layers of height 2 among them; and it fits no other text, index or key.
func TestSignedFits(t *testing.T) {
	m, other, text := rows.Masked(41), rows.Masked(42), []byte("signed")
	for _, x := range few() {
		pub, elsewhere := xmss.Public(x, m), xmss.Public(x, other)
		for _, n := range all(x) {
			sig := sign(t, x, m, n, text)
			fits(t, x, pub, text, sig, n)
			fits(t, x, rows.Guarded(pub), rows.Guarded(text), rows.Guarded(sig), "spare room", n)
			for i := range x.Layers * x.Height {
				none(t, x, pub, text, append(number(n^1<<i), sig[8:]...), "another index", n, i)
			}
			none(t, x, elsewhere, text, sig, "another key", n)
			none(t, x, pub, []byte("signer"), sig, "another text", n)
		}
	}
}

// P16.4: of many secrets.
func TestSecretsFit(t *testing.T) {
	for _, m := range rows.Maskeds() {
		for _, x := range []api.Shape{{Layers: 1, Height: 2}, {Layers: 3, Height: 1}} {
			for _, n := range all(x) {
				fits(t, x, xmss.Public(x, m), []byte("text"), sign(t, x, m, n, []byte("text")), n)
			}
		}
	}
}

// P16.3: another text than the one that was signed.
func TestOtherTexts(t *testing.T) {
	m, x, text := rows.Masked(43), api.Shape{Layers: 2, Height: 1}, rows.Mixed(40, 44)
	pub, sig := xmss.Public(x, m), sign(t, x, m, 2, text)
	for i := range text {
		none(t, x, pub, rows.TurnedBit(text, 8*i+i%8), sig, "a bit of the text turned", i)
	}
	for _, other := range [][]byte{nil, {0}, text[:39], text[1:], append(bytes.Clone(text), 0), append([]byte{0}, text...), append(bytes.Clone(text), text...), make([]byte, 40), make([]byte, api.MaxText)} {
		none(t, x, pub, other, sig, "another text", len(other))
	}
	fits(t, x, pub, text, sig)
}

// P16.3: texts of MaxText bytes, and of more, which fit no signature: not even one of just their sum.
func TestTooLongTexts(t *testing.T) {
	for _, x := range []api.Shape{{Layers: 1, Height: 1}, {Layers: 2, Height: 2}, {Layers: 1, Height: 20}} {
		g := grow(x, 1, 45)
		for _, n := range []int{api.MaxText - 1, api.MaxText} {
			fits(t, x, g.public(), rows.Mixed(n, 46), g.sign(rows.Mixed(n, 46)), "bytes of the text", n)
		}
		for _, n := range []int{api.MaxText + 1, api.MaxText + 2, 2 * api.MaxText, 1 << 20} {
			none(t, x, g.public(), rows.Mixed(n, 46), g.sign(rows.Mixed(n, 46)), "bytes of the text", n)
		}
	}
}

// P16.3: public keys that haven't 64 bytes, each length; such whose bytes would be the right ones among them.
func TestPublicLengths(t *testing.T) {
	m, x, text := rows.Masked(47), api.Shape{Layers: 2, Height: 1}, []byte("text")
	pub, sig := xmss.Public(x, m), sign(t, x, m, 1, text)
	for n := range 64 {
		none(t, x, pub[:n], text, sig, "bytes of the public key, spare room behind", n)
		none(t, x, bytes.Clone(pub[:n]), text, sig, "bytes of the public key", n)
		none(t, x, pub[64-n:], text, sig, "bytes of the public key, at its end", n)
	}
	for _, more := range [][]byte{{0}, {255}, make([]byte, 32), rows.Mixed(64, 48), rows.Mixed(256, 48), pub, sig, rows.Mixed(1<<16, 48)} {
		none(t, x, append(bytes.Clone(pub), more...), text, sig, "a longer public key", len(more))
		none(t, x, append(bytes.Clone(more), pub...), text, sig, "more ahead of the public key", len(more))
	}
	none(t, x, nil, text, sig, "no public key")
	none(t, x, sig, text, pub, "in each other's place")
	fits(t, x, pub, text, sig)
}

// P16.3: signatures that haven't Size bytes, each length; such whose bytes would be the right ones among them.
func TestSignatureLengths(t *testing.T) {
	m, text := rows.Masked(49), []byte("text")
	for _, x := range few() {
		pub, sig := xmss.Public(x, m), sign(t, x, m, 1, text)
		for n := range sig {
			none(t, x, pub, text, sig[:n], "bytes of the signature, spare room behind", n)
			none(t, x, pub, text, bytes.Clone(sig[:n]), "bytes of the signature", n)
			none(t, x, pub, text, sig[n+1:], "bytes of the signature, at its end", n)
		}
		for _, more := range [][]byte{{0}, {255}, make([]byte, 32), rows.Mixed(layerLen(x), 50), rows.Mixed(256, 50), sig, sig[headLen:], pub, rows.Mixed(1<<16, 50)} {
			none(t, x, pub, text, append(bytes.Clone(sig), more...), "a longer signature", len(more))
			none(t, x, pub, text, append(bytes.Clone(more), sig...), "more ahead of the signature", len(more))
		}
		none(t, x, pub, text, nil, "no signature")
		fits(t, x, pub, text, sig)
	}
}

// P16.3: a byte turned, in each part of a signature: its index, its salt, and of each layer each chain's part and each sum of the way.
func TestTurned(t *testing.T) {
	m, text := rows.Masked(51), []byte("turned")
	for _, x := range []api.Shape{{Layers: 2, Height: 2}, {Layers: 3, Height: 1}} {
		n := xmss.Total(x) / 2
		pub, sig := xmss.Public(x, m), sign(t, x, m, n, text)
		fits(t, x, pub, text, sig)
		for at := range headLen {
			none(t, x, pub, text, rows.Turned(sig, at), "a byte of the head turned", at)
		}
		for i := range (len(sig) - headLen) / rowLen {
			none(t, x, pub, text, rows.TurnedBit(sig, 8*(headLen+rowLen*i)+7*i%256), "a bit of a row turned", i)
		}
		for at := range pub {
			none(t, x, rows.Turned(pub, at), text, sig, "a byte of the public key turned", at)
		}
	}
}

// P16.3: each bit of the index; bits of the salt, of a part of each kind and of the public key; bytes of all. (With -short: of fewer of them.)
func TestTurnedBits(t *testing.T) {
	m, x, text := rows.Masked(52), api.Shape{Layers: 2, Height: 1}, []byte("turned bits")
	pub, sig := xmss.Public(x, m), sign(t, x, m, 2, text)
	step := 5
	if testing.Short() {
		step = 31
	}
	for bit := range 64 {
		none(t, x, pub, text, rows.TurnedBit(sig, bit), "a bit of the index turned", bit)
	}
	for _, at := range []int{8, headLen, headLen + 66*rowLen, headLen + leafSigLen, headLen + layerLen(x), len(sig) - rowLen} {
		for bit := 8 * at; bit < 8*(at+rowLen); bit += step {
			none(t, x, pub, text, rows.TurnedBit(sig, bit), "a bit turned", bit)
		}
	}
	for bit := 0; bit < 8*len(pub); bit += step {
		none(t, x, rows.TurnedBit(pub, bit), text, sig, "a bit of the public key turned", bit)
	}
	if testing.Short() {
		return
	}
	for at := 0; at < len(sig); at += 3 {
		none(t, x, pub, text, rows.Turned(sig, at), "a byte turned", at)
	}
}

// P16.3: parts of a signature that change their places: the sums of a way, layers, leaves' signatures, ways, salt and root.
func TestMoved(t *testing.T) {
	m, x, text := rows.Masked(53), api.Shape{Layers: 2, Height: 2}, []byte("moved")
	pub := xmss.Public(x, m)
	for _, n := range all(x) {
		sig := sign(t, x, m, n, text)
		end := headLen + layerLen(x)
		for what, c := range map[string]struct{ a, b, length int }{
			"sums of the way":     {headLen + leafSigLen, headLen + leafSigLen + rowLen, rowLen},
			"sums of the top way": {end + leafSigLen, end + leafSigLen + rowLen, rowLen},
			"layers":              {headLen, end, layerLen(x)},
			"leaves' signatures":  {headLen, end, leafSigLen},
			"ways":                {headLen + leafSigLen, end + leafSigLen, 2 * rowLen},
			"salt and a part":     {8, headLen, rowLen},
		} {
			moved := bytes.Clone(sig)
			copy(moved[c.a:], sig[c.b:c.b+c.length])
			copy(moved[c.b:], sig[c.a:c.a+c.length])
			none(t, x, pub, text, moved, what, "exchanged", n)
		}
		none(t, x, append(bytes.Clone(pub[32:]), pub[:32]...), text, sig, "root and seed exchanged", n)
	}
}

// P16.3: the lower layers of one index, and the upper ones of another: it fits only where these are the same.
func TestMingled(t *testing.T) {
	m, text := rows.Masked(54), []byte("mingled")
	for _, x := range []api.Shape{{Layers: 2, Height: 2}, {Layers: 3, Height: 1}} {
		pub := xmss.Public(x, m)
		var sigs [][]byte
		for _, n := range all(x) {
			sigs = append(sigs, sign(t, x, m, n, text))
		}
		for n, one := range sigs {
			// The other index differs in none, in one, and in all of its bits.
			for _, bits := range []int{0, 1, 2, 4, 8, 15} {
				k := (n ^ bits) % len(sigs)
				for i := range x.Layers {
					at := headLen + layerLen(x)*i
					same := slices.Equal(split(x, uint64(n))[i:], split(x, uint64(k))[i:])
					if got := xmss.Fits(x, pub, text, append(bytes.Clone(one[:at]), sigs[k][at:]...)); got != same {
						t.Errorf("P16.3: Fits, %v, the first %v layers of %v, the others of %v: %v", x, i, n, k, got)
					}
				}
			}
		}
	}
}

// P16.3: of another shape, that may be or not, what was signed doesn't fit: nor do its bytes, with such as lack put behind, or those too many cut.
func TestOtherShape(t *testing.T) {
	m, text := rows.Masked(55), []byte("shapes")
	for _, x := range few() {
		pub, sig := xmss.Public(x, m), sign(t, x, m, 1, text)
		long := append(bytes.Clone(sig), make([]byte, 1<<15)...)
		for _, other := range append(mayBe(), mayNotBe()...) {
			if other == x {
				continue
			}
			none(t, other, pub, text, sig, "of another shape", x)
			if other.Layers <= 3 && other.Height <= 3 {
				none(t, other, pub, text, long[:xmss.Size(other)], "of another shape, of its length", x)
			}
		}
	}
}

// P16.3: of a shape that may not be nothing fits: not an empty row, and not what would fit if it were.
func TestFitsNoShape(t *testing.T) {
	pub := rows.Mixed(64, 56)
	for _, x := range mayNotBe() {
		for _, sig := range [][]byte{nil, {}, make([]byte, headLen), pub, make([]byte, headLen+leafSigLen+rowLen)} {
			none(t, x, pub, nil, sig, "bytes of the signature", len(sig))
		}
	}
	for _, x := range []api.Shape{{Layers: 13, Height: 1}, {Layers: 16, Height: 4}, {Layers: 1, Height: 21}, {Layers: 1, Height: 31}, {Layers: 3, Height: 21}, {Layers: 4, Height: 16}, {Layers: 12, Height: 6}, {Layers: 7, Height: 9}} {
		g := grow(x, 5, 57)
		none(t, x, g.public(), []byte("text"), g.sign([]byte("text")), "what would fit")
	}
}

// P16.3: trees however high, of any sums beside the leaves that sign: of the highest shapes that may be of each number of layers, at the first index, the last one, and one between.
func TestGrown(t *testing.T) {
	text := []byte("grown")
	for i, h := range highest {
		x := api.Shape{Layers: i + 1, Height: h}
		total := xmss.Total(x)
		for _, n := range []uint64{0, total - 1, 0x5a5a5a5a5a5a5a5a % total} {
			if n == 0 && testing.Short() {
				continue
			}
			g := grow(x, n, 58)
			sig := g.sign(text)
			fits(t, x, g.public(), text, sig, n)
			none(t, x, g.public(), text, rows.Turned(sig, len(sig)-1), "the last byte turned", n)
			none(t, x, g.public(), text, rows.Turned(sig, headLen+layerLen(x)-1), "the last byte of the lowest way turned", n)
		}
	}
}

// P16.3: the same of every shape that may be. (With -short: of some.)
func TestGrownOfEachShape(t *testing.T) {
	for i, x := range mayBe() {
		if testing.Short() && i%6 > 0 {
			continue
		}
		g := grow(x, 1, 57)
		sig := g.sign([]byte("each"))
		fits(t, x, g.public(), []byte("each"), sig)
		if len(sig) != xmss.Size(x) {
			t.Errorf("P16.1: Size, %v: %v, not %v", x, xmss.Size(x), len(sig))
		}
	}
}

// P16.3: of shapes that may be, but can't be made: signatures with any bytes, of just their size, and such as fit, with each row turned.
func TestFitsTooHigh(t *testing.T) {
	text := []byte("high")
	for _, x := range tooHigh() {
		size := xmss.Size(x)
		for _, b := range [][]byte{make([]byte, size), append(number(1), rows.Mixed(size-8, 60)...), bytes.Repeat([]byte{255}, size)} {
			none(t, x, rows.Mixed(64, 59), text, b, "any bytes")
		}
	}
	for _, x := range []api.Shape{{Layers: 1, Height: 7}, {Layers: 2, Height: 20}} {
		g := grow(x, 77, 61)
		sig := g.sign(text)
		fits(t, x, g.public(), text, sig)
		for i := range (len(sig) - headLen) / rowLen {
			none(t, x, g.public(), text, rows.TurnedBit(sig, 8*(headLen+rowLen*i)+5*i%256), "a bit of a row turned", i)
		}
		for bit := range 64 {
			none(t, x, g.public(), text, rows.TurnedBit(sig, bit), "a bit of the index turned", bit)
		}
	}
}

// P16.3: a whole tree of the height 7, put together: all of its leaves that are asked for fit.
func TestHighTree(t *testing.T) {
	if testing.Short() {
		t.Skip("128 leaves")
	}
	x, m, text := api.Shape{Layers: 1, Height: 7}, rows.Masked(62), []byte("seven")
	pub := byOthers.public(x, m)
	for _, n := range []uint64{0, 1, 63, 64, 100, 127} {
		sig := byOthers.sign(x, m, n, text)
		fits(t, x, pub, text, sig, n)
		none(t, x, pub, text, append(number(n^64), sig[8:]...), "another index", n)
		nothing(t, xmss.Public(x, m), "P16.1: Public, of the same")
	}
}

// P16.3: at an index from Total on nothing fits: neither what would, if there were further trees above, nor what does at the index that is the same by its lower bits.
func TestFitsBeyond(t *testing.T) {
	text := []byte("beyond")
	for _, x := range []api.Shape{{Layers: 1, Height: 1}, {Layers: 2, Height: 2}, {Layers: 1, Height: 20}, {Layers: 3, Height: 20}} {
		total := xmss.Total(x)
		for _, n := range beyond(total) {
			g := grow(x, n, 63)
			none(t, x, g.public(), text, g.sign(text), "beyond", n)
			low := grow(x, n%total, 63)
			none(t, x, low.public(), text, append(number(n), low.sign(text)[8:]...), "beyond, by its lower bits", n)
			// The text's sum of the higher index, all else of the lower one.
			far := append([][]byte{byOthers.textSum(low.salt, low.root(), n, text)}, low.roots...)
			none(t, x, low.public(), text, append(number(n), low.signSums(far)[8:]...), "beyond, summed, by its lower bits", n)
		}
		last := grow(x, total-1, 63)
		fits(t, x, last.public(), text, last.sign(text), "the last index")
	}
}

// P16.3: whatever salt a signature has: it needn't be that of the index.
func TestAnySalt(t *testing.T) {
	m, x, text := rows.Masked(64), api.Shape{Layers: 2, Height: 1}, []byte("salt")
	pub := xmss.Public(x, m)
	for _, salt := range [][]byte{make([]byte, rowLen), bytes.Repeat([]byte{255}, rowLen), rows.Mixed(rowLen, 65), m.Salt, m.Seed} {
		signed := sign(t, x, m, 3, text)
		p := split(x, 3)[0]
		copy(signed[8:], salt)
		none(t, x, pub, text, signed, "another salt")
		copy(signed[headLen:], p.sign(m, byOthers.textSum(salt, pub[:rowLen], 3, text)))
		fits(t, x, pub, text, signed, "another salt, and its sum")
	}
}

// P16.3: where the lowest layer signs another sum than that of the text, or a layer above another one than the root below, it doesn't fit.
func TestOtherSums(t *testing.T) {
	text := []byte("sums")
	for _, x := range []api.Shape{{Layers: 1, Height: 7}, {Layers: 3, Height: 2}} {
		g := grow(x, 9, 66)
		salt, root := g.salt, g.root()
		signs := append([][]byte{byOthers.textSum(salt, root, 9, text)}, g.roots...)
		fits(t, x, g.public(), text, g.signSums(signs))
		for what, sum := range map[string][]byte{
			"another salt's":           byOthers.textSum(rows.Turned(salt, 31), root, 9, text),
			"another root's":           byOthers.textSum(salt, rows.Turned(root, 0), 9, text),
			"the lowest root's":        byOthers.textSum(salt, g.roots[0], 9, text),
			"another index's":          byOthers.textSum(salt, root, 8, text),
			"of the seed":              byOthers.textSum(salt, g.m.Seed, 9, text),
			"of the number 0":          byOthers.num(0, slices.Concat(salt, root, index(9)), text),
			"of the number 1":          byOthers.num(1, slices.Concat(salt, root, index(9)), text),
			"of the number 3":          byOthers.num(3, slices.Concat(salt, root, index(9)), text),
			"of 8 bytes of the index":  byOthers.num(2, slices.Concat(salt, root, number(9)), text),
			"of no index":              byOthers.num(2, slices.Concat(salt, root), text),
			"of no salt":               byOthers.num(2, slices.Concat(root, index(9)), text),
			"of no root":               byOthers.num(2, slices.Concat(salt, index(9)), text),
			"of the text alone":        otherSum(text),
			"of root and salt":         byOthers.num(2, slices.Concat(root, salt, index(9)), text),
			"of the index at first":    byOthers.num(2, slices.Concat(index(9), salt, root), text),
			"of the text at first":     byOthers.num(2, text, slices.Concat(salt, root, index(9))),
			"the root":                 root,
			"of the index from behind": byOthers.num(2, slices.Concat(salt, root, number(9), make([]byte, 24)), text),
		} {
			if what == "the lowest root's" && x.Layers == 1 {
				continue
			}
			other := slices.Concat([][]byte{sum}, g.roots)
			none(t, x, g.public(), text, g.signSums(other), what)
		}
		for i := 1; i < x.Layers; i++ {
			for what, sum := range map[string][]byte{"a bit": rows.Turned(g.roots[i-1], 31), "the text's": signs[0], "its own": g.roots[i], "the text's alone": otherSum(text)} {
				other := slices.Clone(signs)
				other[i] = sum
				none(t, x, g.public(), text, g.signSums(other), "layer", i, what)
			}
		}
	}
}

// P16.3: another root than the one that a signature leads to, even where the text's sum is of that.
func TestOtherRoot(t *testing.T) {
	text := []byte("roots")
	for _, x := range []api.Shape{{Layers: 1, Height: 2}, {Layers: 2, Height: 3}, {Layers: 2, Height: 8}} {
		g := grow(x, 3, 67)
		for _, root := range [][]byte{make([]byte, rowLen), rows.Turned(g.root(), 0), rows.Turned(g.root(), 31), g.m.Seed, g.salt} {
			signs := append([][]byte{byOthers.textSum(g.salt, root, 3, text)}, g.roots...)
			none(t, x, append(bytes.Clone(root), g.m.Seed...), text, g.signSums(signs), "another root")
		}
		if x.Layers == 2 {
			signs := append([][]byte{byOthers.textSum(g.salt, g.roots[0], 3, text)}, g.roots...)
			none(t, x, append(bytes.Clone(g.roots[0]), g.m.Seed...), text, g.signSums(signs), "the root below")
		}
	}
}

// P16.3: any bytes: none fits, and the call ends.
func TestAnyBytes(t *testing.T) {
	for _, x := range few() {
		n := xmss.Size(x)
		for _, b := range [][]byte{make([]byte, n), bytes.Repeat([]byte{255}, n), rows.Mixed(n, 68), append(number(xmss.Total(x)-1), rows.Mixed(n-8, 69)...)} {
			for _, pub := range [][]byte{make([]byte, 64), bytes.Repeat([]byte{255}, 64), rows.Mixed(64, 70)} {
				none(t, x, pub, nil, b, "any bytes")
			}
		}
	}
	for _, x := range []api.Shape{{Layers: math.MaxInt, Height: 1}, {Layers: 1, Height: math.MaxInt}, {Layers: math.MinInt, Height: math.MinInt}} {
		none(t, x, make([]byte, 64), nil, make([]byte, headLen), "the greatest numbers")
	}
}
