package xmss_test

import (
	"bytes"
	"testing"

	"tearoff/api"
	"tearoff/rows"
	"tearoff/xmss"
)

// P16.1, P16.2, P16.3: what was handed in stays as it was, its spare room too, and isn't shared nor kept; nor do answers share memory: what was answered may be written over.
func TestKeepsApart(t *testing.T) {
	m, text := rows.Masked(81), []byte("apart")
	of := func(in [][]byte) api.Masked { return api.Masked{Secret: in[0], Salt: in[1], Seed: in[2]} }
	bad := func(in [][]byte) api.Masked { return api.Masked{Secret: in[0], Salt: in[1][:31], Seed: in[2]} }
	for _, x := range []api.Shape{{Layers: 1, Height: 2}, {Layers: 3, Height: 1}} {
		for what, call := range map[string]func(in [][]byte) []byte{
			"Root":              func(in [][]byte) []byte { return xmss.Root(x, of(in), 0, 0) },
			"Root, no tree":     func(in [][]byte) []byte { return xmss.Root(x, of(in), 0, xmss.Total(x)) },
			"Public":            func(in [][]byte) []byte { return xmss.Public(x, of(in)) },
			"Public, refused":   func(in [][]byte) []byte { return xmss.Public(x, bad(in)) },
			"Sign":              func(in [][]byte) []byte { sig, _ := xmss.Sign(x, of(in), 1, in[3]); return sig },
			"Sign, refused":     func(in [][]byte) []byte { sig, _ := xmss.Sign(x, bad(in), 1, in[3]); return sig },
			"Sign, no index":    func(in [][]byte) []byte { sig, _ := xmss.Sign(x, of(in), xmss.Total(x), in[3]); return sig },
			"Sign, of a secret": func(in [][]byte) []byte { sig, _ := xmss.Sign(x, of(in), 1, in[0]); return sig },
			"Fits":              func(in [][]byte) []byte { return rows.Yes(xmss.Fits(x, in[4], in[3], in[5])) },
			"Fits, refused":     func(in [][]byte) []byte { return rows.Yes(xmss.Fits(x, in[4], in[3], in[5][:99])) },
			"Fits, no fit":      func(in [][]byte) []byte { return rows.Yes(xmss.Fits(x, in[4], in[0], in[5])) },
			"Fits, one for all": func(in [][]byte) []byte { return rows.Yes(xmss.Fits(x, in[5][:64], in[5], in[5])) },
		} {
			if how := rows.Apart(call, m.Secret, m.Salt, m.Seed, text, xmss.Public(x, m), sign(t, x, m, 1, text)); how != "" {
				t.Errorf("P16: %v, %v: %v", what, x, how)
			}
		}
	}
}

// P16.1, P16.2, P16.3: rows that share memory are taken as they stand, each up to its own end.
func TestShared(t *testing.T) {
	b, x := rows.Mixed(128, 82), api.Shape{Layers: 2, Height: 1}
	for at := range 16 {
		m := api.Masked{Secret: b[at : at+32], Salt: b[at+3 : at+35], Seed: b[at+7 : at+39]}
		text := b[at+11 : at+90]
		sig := sign(t, x, m, 2, text)
		expect(t, sig, byOthers.sign(x, m, 2, text), "P16.2: Sign, of rows that share memory", at)
		whole := bytes.Join([][]byte{xmss.Public(x, m), text, sig}, nil)
		expect(t, whole[:64], byOthers.public(x, m), "P16.1: Public, of rows that share memory", at)
		fits(t, x, whole[:64], whole[64:143], whole[143:], "rows that share memory", at)
		none(t, x, whole[:64], whole[:143], whole[143:], "the public key in the text", at)
	}
	expect(t, b, rows.Mixed(128, 82), "P16.1: what is shared")
}

// P16.2, P16.3: a signature of its own bytes as a text, and of the public key.
func TestSignedOfItself(t *testing.T) {
	m, x := rows.Masked(83), api.Shape{Layers: 2, Height: 1}
	pub := xmss.Public(x, m)
	sig := sign(t, x, m, 0, pub)
	fits(t, x, pub, pub, sig, "the public key")
	none(t, x, pub, sig, sig, "itself")
	again := sign(t, x, m, 1, sig)
	fits(t, x, pub, sig, again, "a signature")
	none(t, x, pub, again, sig, "in each other's place")
}

// P16.1, P16.2, P16.3: a refused call leaves nothing behind, and a call tells the same each time, whatever was asked between.
func TestAfterRefused(t *testing.T) {
	m, text := rows.Masked(84), []byte("again")
	bad := api.Masked{Secret: m.Secret, Salt: m.Salt, Seed: m.Seed[:31]}
	for _, x := range few() {
		pub, sig := byOthers.public(x, m), rows.Told(byOthers.sign(x, m, 1, text), api.OK)
		for range 2 {
			nothing(t, xmss.Public(x, bad), "P16.1: Public, a short seed")
			expect(t, xmss.Public(x, m), pub, "P16.1: Public, behind a refused one", x)
			refused(t, x, bad, 1, text, api.Arg)
			refused(t, x, m, xmss.Total(x), text, api.Exhausted)
			refused(t, api.Shape{Layers: 1, Height: 7}, m, 0, text, api.Arg)
			expect(t, rows.Told(xmss.Sign(x, m, 1, text)), sig, "P16.2: Sign, behind a refused one", x)
			none(t, x, pub, text, sig, "a byte too many")
			none(t, x, pub, nil, sig[1:], "another text")
			fits(t, x, pub, text, sig[1:], "behind a refused one")
			sign(t, x, rows.Masked(85), 0, text)
			expect(t, rows.Told(xmss.Sign(x, m, 1, text)), sig, "P16.2: Sign, behind another key's", x)
		}
	}
}

// P16.2: an index may be asked for in any order, and again: nothing is counted.
func TestAnyOrder(t *testing.T) {
	m, x, text := rows.Masked(86), api.Shape{Layers: 2, Height: 2}, []byte("order")
	for _, n := range []uint64{15, 0, 15, 7, 3, 3, 8, 0} {
		expect(t, sign(t, x, m, n, text), byOthers.sign(x, m, n, text), "P16.2: Sign, in any order", n)
	}
}
