package xmss_test

import (
	"bytes"
	"crypto/sha256"
	"math"
	"slices"
	"testing"

	"tearoff/adrs"
	"tearoff/api"
	"tearoff/rows"
	"tearoff/wplus"
	"tearoff/xmss"
)

// splits are indices, and the leaf and the tree at each layer, split by hand: at 0, at the last one, and where a layer's leaf goes over.
var splits = []struct {
	x    api.Shape
	n    uint64
	want []place
}{
	{api.Shape{Layers: 1, Height: 1}, 0, []place{{0, 0, 0}}},
	{api.Shape{Layers: 1, Height: 1}, 1, []place{{0, 0, 1}}},
	{api.Shape{Layers: 1, Height: 3}, 6, []place{{0, 0, 6}}},
	{api.Shape{Layers: 2, Height: 2}, 0, []place{{0, 0, 0}, {1, 0, 0}}},
	{api.Shape{Layers: 2, Height: 2}, 1, []place{{0, 0, 1}, {1, 0, 0}}},
	{api.Shape{Layers: 2, Height: 2}, 3, []place{{0, 0, 3}, {1, 0, 0}}},
	{api.Shape{Layers: 2, Height: 2}, 4, []place{{0, 1, 0}, {1, 0, 1}}},
	{api.Shape{Layers: 2, Height: 2}, 7, []place{{0, 1, 3}, {1, 0, 1}}},
	{api.Shape{Layers: 2, Height: 2}, 8, []place{{0, 2, 0}, {1, 0, 2}}},
	{api.Shape{Layers: 2, Height: 2}, 11, []place{{0, 2, 3}, {1, 0, 2}}},
	{api.Shape{Layers: 2, Height: 2}, 12, []place{{0, 3, 0}, {1, 0, 3}}},
	{api.Shape{Layers: 2, Height: 2}, 15, []place{{0, 3, 3}, {1, 0, 3}}},
	{api.Shape{Layers: 3, Height: 1}, 0, []place{{0, 0, 0}, {1, 0, 0}, {2, 0, 0}}},
	{api.Shape{Layers: 3, Height: 1}, 1, []place{{0, 0, 1}, {1, 0, 0}, {2, 0, 0}}},
	{api.Shape{Layers: 3, Height: 1}, 2, []place{{0, 1, 0}, {1, 0, 1}, {2, 0, 0}}},
	{api.Shape{Layers: 3, Height: 1}, 3, []place{{0, 1, 1}, {1, 0, 1}, {2, 0, 0}}},
	{api.Shape{Layers: 3, Height: 1}, 4, []place{{0, 2, 0}, {1, 1, 0}, {2, 0, 1}}},
	{api.Shape{Layers: 3, Height: 1}, 6, []place{{0, 3, 0}, {1, 1, 1}, {2, 0, 1}}},
	{api.Shape{Layers: 3, Height: 1}, 7, []place{{0, 3, 1}, {1, 1, 1}, {2, 0, 1}}},
	{api.Shape{Layers: 3, Height: 2}, 27, []place{{0, 6, 3}, {1, 1, 2}, {2, 0, 1}}},
	{api.Shape{Layers: 2, Height: 3}, 42, []place{{0, 5, 2}, {1, 0, 5}}},
	{api.Shape{Layers: 4, Height: 1}, 11, []place{{0, 5, 1}, {1, 2, 1}, {2, 1, 0}, {3, 0, 1}}},
}

// P16.2: at an index each layer's leaf signs that is its by hand, and the way is that leaf's.
func TestSplit(t *testing.T) {
	m, text := rows.Masked(21), []byte("split")
	for _, c := range splits {
		if !slices.Equal(split(c.x, c.n), c.want) {
			t.Fatalf("split by its letters, %v, %v: %v, not %v", c.x, c.n, split(c.x, c.n), c.want)
		}
		sig := sign(t, c.x, m, c.n, text)
		expect(t, sig[:8], number(c.n), "P16.2: Sign, the index", c.x, c.n)
		signs := byOthers.textSum(byOthers.salt(m, c.n), xmss.Public(c.x, m)[:rowLen], c.n, text)
		for i, p := range c.want {
			leafSig, way := layer(c.x, sig, i)
			expect(t, leafSig, wplus.Sign(m, p.layer, p.tree, p.q, signs), "P16.2: Sign, a leaf's signature", c.x, c.n, i)
			expect(t, way, byOthers.way(c.x, m, p), "P16.2: Sign, a way", c.x, c.n, i)
			signs = xmss.Root(c.x, m, p.layer, p.tree)
		}
	}
}

// P16.2: the ways of the height 2, written out.
func TestWays(t *testing.T) {
	m, x := rows.Masked(22), api.Shape{Layers: 2, Height: 2}
	for n := range uint64(16) {
		sig := sign(t, x, m, n, nil)
		for i, p := range split(x, n) {
			leaf := func(q uint32) []byte { return wplus.Leaf(m, p.layer, p.tree, q) }
			want := slices.Concat([][]byte{leaf(1), leaf(0), leaf(3), leaf(2)}[p.q])
			above := adrs.H(m.Seed, api.Adrs{Layer: p.layer, Tree: p.tree, Kind: 2, C: 1}, leaf(2), leaf(3))
			if p.q > 1 {
				above = adrs.H(m.Seed, api.Adrs{Layer: p.layer, Tree: p.tree, Kind: 2, C: 0}, leaf(0), leaf(1))
			}
			_, way := layer(x, sig, i)
			expect(t, way, append(want, above...), "P16.2: Sign, a way", n, i)
		}
	}
}

// P16.2: the salt and the sum of a text, worked out as bytes, and what the lowest layer signs.
func TestTextSum(t *testing.T) {
	for _, m := range rows.Maskeds() {
		for _, n := range []uint64{0, 1, 2, 5, 7} {
			x, text := api.Shape{Layers: 3, Height: 1}, []byte("a text")
			sig := sign(t, x, m, n, text)
			// 31 bytes 0, 3, Salt, and n as 32 bytes.
			salt := sha256.Sum256(slices.Concat(make([]byte, 31), []byte{3}, m.Salt, make([]byte, 31), []byte{byte(n)}))
			expect(t, sig[8:40], salt[:], "P16.2: Sign, the salt", n)
			// 31 bytes 0, 2, the salt, the root, n as 32 bytes, and the text.
			root := xmss.Root(x, m, 2, 0)
			sum := sha256.Sum256(slices.Concat(make([]byte, 31), []byte{2}, salt[:], root, make([]byte, 31), []byte{byte(n)}, text))
			leafSig, _ := layer(x, sig, 0)
			expect(t, leafSig, split(x, n)[0].sign(m, sum[:]), "P16.2: Sign, the sum of a text", n)
			for _, means := range allMeans {
				expect(t, means.salt(m, n), salt[:], "the salt, put together", n)
				expect(t, means.textSum(salt[:], root, n, text), sum[:], "the sum of a text, put together", n)
			}
		}
	}
}

// P16.2: signatures at all indices of some shapes, put together; no two are alike.
func TestSign(t *testing.T) {
	m, text := rows.Masked(23), []byte("all indices")
	for _, x := range append(few(), api.Shape{Layers: 4, Height: 1}) {
		told := map[string]bool{}
		for _, n := range all(x) {
			sig := sign(t, x, m, n, text)
			for _, means := range allMeans {
				expect(t, sig, means.sign(x, m, n, text), "P16.2: Sign", x, n)
			}
			told[string(sig[8:])] = true
		}
		if len(told) != len(all(x)) {
			t.Errorf("P16.2: Sign, %v: %v signatures", x, len(told))
		}
	}
}

// P16.2: of many secrets.
func TestSignSecrets(t *testing.T) {
	for _, m := range rows.Maskeds() {
		for _, x := range few() {
			for _, n := range []uint64{0, xmss.Total(x) - 1} {
				expect(t, sign(t, x, m, n, []byte("secrets")), byOthers.sign(x, m, n, []byte("secrets")), "P16.2: Sign", x, n)
			}
		}
	}
}

// P16.2, P16.4: far indices of great shapes: bytes of each index tell in its salt, its text's sum and its places. (With -short: of the height 1 alone.)
func TestSignFar(t *testing.T) {
	m, text := rows.Masked(24), []byte("far")
	far := map[api.Shape][]uint64{
		{Layers: 12, Height: 1}: {255, 256, 0x5a5, 0xfff},
		{Layers: 1, Height: 6}:  {31, 32, 63},
		{Layers: 12, Height: 5}: {0x0123456789abcde},
	}
	for x, list := range far {
		if x.Height > 1 && testing.Short() {
			continue
		}
		pub := xmss.Public(x, m)
		for _, n := range list {
			sig := sign(t, x, m, n, text)
			expect(t, sig, byOthers.sign(x, m, n, text), "P16.2: Sign", x, n)
			fits(t, x, pub, text, sig, n)
			none(t, x, pub, text, append(number(n^1), sig[8:]...), "another index", n)
			refused(t, x, m, xmss.Total(x)+n, text, api.Exhausted)
		}
	}
}

// P16.2: texts of many lengths.
func TestTexts(t *testing.T) {
	m, x := rows.Masked(25), api.Shape{Layers: 1, Height: 1}
	for _, length := range []int{0, 1, 22, 23, 24, 31, 32, 33, 55, 56, 63, 64, 65, 100, 1000, api.MaxText - 1, api.MaxText} {
		for _, text := range [][]byte{rows.Mixed(length, 26), make([]byte, length)} {
			sig := sign(t, x, m, 1, text)
			expect(t, sig, byOthers.sign(x, m, 1, text), "P16.2: Sign, bytes of the text", length)
			fits(t, x, xmss.Public(x, m), text, sig, "bytes of the text", length)
		}
	}
	expect(t, sign(t, x, m, 1, nil), sign(t, x, m, 1, []byte{}), "P16.2: Sign, no text")
}

// P16.2: of a text with more than MaxText bytes Arg.
func TestLongTexts(t *testing.T) {
	m := rows.Masked(27)
	for _, x := range append(few(), api.Shape{Layers: 12, Height: 5}) {
		for _, length := range []int{api.MaxText + 1, api.MaxText + 2, 2 * api.MaxText, 1 << 20} {
			text := rows.Mixed(length, 28)
			for _, n := range []uint64{0, xmss.Total(x) - 1} {
				refused(t, x, m, n, text, api.Arg, "bytes of the text", length)
			}
		}
	}
}

// P16.2: at an index that isn't below Total Exhausted.
func TestExhausted(t *testing.T) {
	for _, m := range rows.Maskeds() {
		for _, x := range made() {
			total := xmss.Total(x)
			for _, n := range beyond(total) {
				if n < total {
					t.Fatalf("%v is below %v", n, total)
				}
				refused(t, x, m, n, nil, api.Exhausted)
				refused(t, x, m, n, rows.Mixed(9, 29), api.Exhausted)
			}
		}
	}
	x, m := api.Shape{Layers: 2, Height: 2}, rows.Masked(30)
	for n := range uint64(64) {
		want := api.OK
		if n >= 16 {
			want = api.Exhausted
		}
		if _, e := xmss.Sign(x, m, n, nil); e != want {
			t.Errorf("P16.2: Sign, at %v: %v, not %v", n, e, want)
		}
	}
	refused(t, x, m, 16, make([]byte, api.MaxText), api.Exhausted, "a text of MaxText bytes")
}

// P16.2: Arg is named first: where Exhausted applies too, and each reason for it alone and together.
func TestNamedFirst(t *testing.T) {
	m, long := rows.Masked(31), make([]byte, api.MaxText+1)
	bad := api.Masked{Secret: m.Secret, Salt: m.Salt[:31], Seed: m.Seed}
	for _, x := range []api.Shape{{Layers: 1, Height: 1}, {Layers: 2, Height: 2}, {Layers: 12, Height: 5}, {Layers: 10, Height: 6}} {
		for _, n := range []uint64{0, xmss.Total(x) - 1, xmss.Total(x), math.MaxUint64} {
			refused(t, x, m, n, long, api.Arg, "a long text")
			refused(t, x, bad, n, nil, api.Arg, "a short salt")
			refused(t, x, bad, n, long, api.Arg, "both")
		}
	}
	for _, x := range []api.Shape{{}, {Layers: 1, Height: 7}, {Layers: 3, Height: 20}, {Layers: 13, Height: 1}, {Layers: 1}, {Height: 1}, {Layers: -1, Height: -1}} {
		for _, n := range []uint64{0, 1, 127, 128, 1 << 60, math.MaxUint64} {
			refused(t, x, m, n, nil, api.Arg, "a shape")
			refused(t, x, bad, n, nil, api.Arg, "a shape, and a short salt")
			refused(t, x, m, n, long, api.Arg, "a shape, and a long text")
			refused(t, x, bad, n, long, api.Arg, "all")
		}
	}
}

// P16.2: each byte of the salt tells in all that the lowest layer signs, and in nothing above.
func TestSaltTells(t *testing.T) {
	m, x, text := rows.Masked(32), api.Shape{Layers: 2, Height: 1}, []byte("salted")
	sig := sign(t, x, m, 2, text)
	for at := range rowLen {
		salted := api.Masked{Secret: m.Secret, Salt: rows.Turned(m.Salt, at), Seed: m.Seed}
		got := sign(t, x, salted, 2, text)
		expect(t, got, byOthers.sign(x, salted, 2, text), "P16.2: Sign, another salt", at)
		below, way := layer(x, sig, 0)
		gotBelow, gotWay := layer(x, got, 0)
		if bytes.Equal(got[8:40], sig[8:40]) || bytes.Equal(gotBelow, below) {
			t.Errorf("P16.2: Sign, another byte of the salt, %v: the same", at)
		}
		expect(t, gotWay, way, "P16.2: Sign, another salt", at)
		expect(t, got[headLen+layerLen(x):], sig[headLen+layerLen(x):], "P16.2: Sign, another salt", at)
		fits(t, x, xmss.Public(x, m), text, got, "another salt", at)
	}
}

// P16.2: of two texts at one index all is the same but what the lowest leaf signs.
func TestTextTells(t *testing.T) {
	m, x := rows.Masked(33), api.Shape{Layers: 3, Height: 1}
	for _, n := range all(x) {
		one, two := sign(t, x, m, n, []byte("one")), sign(t, x, m, n, []byte("two"))
		expect(t, one[:headLen], two[:headLen], "P16.2: Sign, another text", n)
		expect(t, one[headLen+leafSigLen:], two[headLen+leafSigLen:], "P16.2: Sign, another text", n)
		if bytes.Equal(one, two) {
			t.Errorf("P16.2: Sign, another text, at %v: the same", n)
		}
	}
}
