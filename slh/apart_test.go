package slh_test

import (
	"bytes"
	"slices"
	"testing"

	"tearoff/api"
	"tearoff/rows"
	"tearoff/slh"
)

// P18.2, P18.3: what was handed in stays as it was, its spare room too, and isn't shared nor kept; nor do answers share memory: what was answered may be written over, and asked for again.
func TestKeepsApart(t *testing.T) {
	of := func(in [][]byte) api.Masked { return api.Masked{Secret: in[0], Salt: in[1], Seed: in[2]} }
	bad := func(in [][]byte) api.Masked { return api.Masked{Secret: in[0], Salt: in[1][1:], Seed: in[2]} }
	for _, f := range few() {
		m, extra, text := rows.MaskedOf(f.N, 141), rows.Mixed(f.N, 142), []byte("apart")
		for what, call := range map[string]func(in [][]byte) []byte{
			"Root":              func(in [][]byte) []byte { return slh.Root(f, of(in), 0, 5) },
			"Root, no layer":    func(in [][]byte) []byte { return slh.Root(f, of(in), uint32(f.Layers), 0) },
			"Public":            func(in [][]byte) []byte { return slh.Public(f, of(in)) },
			"Public, refused":   func(in [][]byte) []byte { return slh.Public(f, bad(in)) },
			"Sign":              func(in [][]byte) []byte { return rows.Told(slh.Sign(f, of(in), in[3], in[4])) },
			"Sign, refused":     func(in [][]byte) []byte { return rows.Told(slh.Sign(f, bad(in), in[3], in[4])) },
			"Sign, no extra":    func(in [][]byte) []byte { return rows.Told(slh.Sign(f, of(in), in[3][1:], in[4])) },
			"Sign, of a secret": func(in [][]byte) []byte { return rows.Told(slh.Sign(f, of(in), in[2], in[0])) },
			"Fits":              func(in [][]byte) []byte { return rows.Yes(slh.Fits(f, in[5], in[4], in[6])) },
			"Fits, refused":     func(in [][]byte) []byte { return rows.Yes(slh.Fits(f, in[5], in[4], in[6][:99])) },
			"Fits, no fit":      func(in [][]byte) []byte { return rows.Yes(slh.Fits(f, in[5], in[0], in[6])) },
			"Fits, one for all": func(in [][]byte) []byte { return rows.Yes(slh.Fits(f, in[6][:2*f.N], in[6], in[6])) },
		} {
			if how := rows.Apart(call, m.Secret, m.Salt, m.Seed, extra, text, slh.Public(f, m), sign(t, f, m, extra, text)); how != "" {
				t.Errorf("P18: %v, %v: %v", what, f, how)
			}
		}
	}
}

// P18.2, P18.3: rows that share memory are taken as they stand, each up to its own end.
func TestShared(t *testing.T) {
	b := rows.Mixed(128, 143)
	for _, f := range few()[:9] {
		for at := range 4 {
			m := api.Masked{Secret: b[at:][:f.N], Salt: b[at+3:][:f.N], Seed: b[at+7:][:f.N]}
			extra, text := b[at+5:][:f.N], b[at+11:at+90]
			sig := sign(t, f, m, extra, text)
			expect(t, sig, byOthers.sign(f, m, extra, text), "P18.2: Sign, of rows that share memory", f, at)
			whole := bytes.Join([][]byte{slh.Public(f, m), text, sig}, nil)
			expect(t, whole[:2*f.N], byOthers.public(f, m), "P18.2: Public, of rows that share memory", f, at)
			fits(t, f, whole[:2*f.N], whole[2*f.N:][:79], whole[2*f.N+79:], "rows that share memory", at)
		}
	}
	expect(t, b, rows.Mixed(128, 143), "P18.2: what is shared")
}

// P18.2, P18.3: a signature of its own bytes as a text, and of the public key.
func TestSignedOfItself(t *testing.T) {
	f, m := api.Few{N: 16, Layers: 2, Height: 1, K: 6, A: 4}, rows.MaskedOf(16, 144)
	pub := slh.Public(f, m)
	sig := sign(t, f, m, m.Seed, pub)
	fits(t, f, pub, pub, sig, "the public key")
	none(t, f, pub, sig, sig, "itself")
	again := sign(t, f, m, m.Seed, sig)
	fits(t, f, pub, sig, again, "a signature")
	none(t, f, pub, again, sig, "in each other's place")
}

// P18.2, P18.3: a refused call leaves nothing behind, and a call tells the same each time, whatever was asked between.
func TestAfterRefused(t *testing.T) {
	for _, f := range few() {
		m, text := rows.MaskedOf(f.N, 145), []byte("again")
		bad := api.Masked{Secret: m.Secret, Salt: m.Salt, Seed: m.Seed[1:]}
		pub, sig := byOthers.public(f, m), byOthers.sign(f, m, m.Secret, text)
		for range 2 {
			nothing(t, slh.Public(f, bad), "P18.2: Public, a short seed", f)
			refused(t, f, bad, m.Secret, text, "a short seed")
			refused(t, f, m, m.Secret[1:], text, "a short extra")
			refused(t, api.Few{N: f.N, Layers: 1, Height: 7, K: 1, A: 1}, m, m.Secret, text, "too high")
			expect(t, slh.Public(f, m), pub, "P18.2: Public, behind a refused one", f)
			expect(t, sign(t, f, m, m.Secret, text), sig, "P18.2: Sign, behind a refused one", f)
			none(t, f, pub, text, slices.Concat(sig, []byte{0}), "a byte too many")
			none(t, f, pub[1:], text, sig, "a byte fewer of the public key")
			fits(t, f, pub, text, sig, "behind a refused one")
			sign(t, f, rows.MaskedOf(f.N, 146), m.Secret, text)
			sign(t, f, m, m.Seed, []byte("between"))
			expect(t, sign(t, f, m, m.Secret, text), sig, "P18.2: Sign, behind another key's", f)
		}
	}
}
