package wplus_test

import (
	"bytes"
	"slices"
	"testing"

	"tearoff/api"
	"tearoff/rows"
	"tearoff/wplus"
)

// P15.1, P15.2: what was handed in stays as it was, its spare room too, and isn't shared nor kept; nor do answers share memory: what was answered may be written over.
func TestKeepsApart(t *testing.T) {
	m := rows.Masked(71)
	of := func(in [][]byte) api.Masked { return api.Masked{Secret: in[0], Salt: in[1], Seed: in[2]} }
	for _, p := range []place{{}, {1, 2, 3}} {
		for _, sum := range [][]byte{make([]byte, rowLen), bytes.Repeat([]byte{255}, rowLen), all015()} {
			for what, call := range map[string]func(in [][]byte) []byte{
				"May":                     func(in [][]byte) []byte { return yes(of(in)) },
				"May, refused":            func(in [][]byte) []byte { return yes(of([][]byte{in[0], in[1], in[2][:31]})) },
				"Leaf":                    func(in [][]byte) []byte { return p.leaf(of(in)) },
				"Leaf, refused":           func(in [][]byte) []byte { return p.leaf(of([][]byte{in[0], in[1][:31], in[2]})) },
				"Sign":                    func(in [][]byte) []byte { return p.sign(of(in), in[3]) },
				"Sign, of itself":         func(in [][]byte) []byte { return p.sign(of(in), in[0]) },
				"Sign, a short sum":       func(in [][]byte) []byte { return p.sign(of(in), in[3][:31]) },
				"Stands":                  func(in [][]byte) []byte { return p.stands(in[2], in[3], in[4]) },
				"Stands, a short sum":     func(in [][]byte) []byte { return p.stands(in[2], in[3][:31], in[4]) },
				"Stands, a long sum":      func(in [][]byte) []byte { return p.stands(in[2], in[4][:33], in[4]) },
				"Stands, of another seed": func(in [][]byte) []byte { return p.stands(in[3], in[3], in[4]) },
			} {
				if how := rows.Apart(call, m.Secret, m.Salt, m.Seed, sum, p.sign(m, sum)); how != "" {
					t.Errorf("P15: %v, of %v: %v", what, p, how)
				}
			}
		}
	}
}

// yes: a row that tells whether secrets may be.
func yes(m api.Masked) []byte {
	if wplus.May(m) {
		return []byte{1}
	}
	return nil
}

// P15.1, P15.2: rows that share memory are taken as they stand, each up to its own end.
func TestShared(t *testing.T) {
	b, p := rows.Mixed(128, 72), place{1, 2, 3}
	for at := range 32 {
		m := api.Masked{Secret: b[at : at+32], Salt: b[at+3 : at+35], Seed: b[at+7 : at+39]}
		sum := b[at+11 : at+43]
		sig := p.sign(m, sum)
		expect(t, sig, byOthers.sign(p, m, sum), "P15.1: Sign, of rows that share memory", at)
		expect(t, p.leaf(m), byOthers.leaf(p, m), "P15.1: Leaf, of rows that share memory", at)
		whole := slices.Concat(m.Seed, sum, sig)
		expect(t, p.stands(whole[:32], whole[32:64], whole[64:]), p.leaf(m), "P15.3: Stands, of rows that share memory", at)
		expect(t, p.stands(sig[:32], sig[16:48], sig), byOthers.stands(p, sig[:32], sig[16:48], sig), "P15.2: Stands, of parts of the signature", at)
	}
	expect(t, b, rows.Mixed(128, 72), "P15.1: what is shared")
}

// P15.1, P15.2: a refused call leaves nothing behind, and a call tells the same each time, whatever was asked between.
func TestAfterRefused(t *testing.T) {
	m, sum := rows.Masked(73), all015()
	bad := api.Masked{Secret: m.Secret, Salt: m.Salt[:31], Seed: m.Seed}
	for _, p := range places() {
		leaf, sig := byOthers.leaf(p, m), byOthers.sign(p, m, sum)
		for range 2 {
			nothing(t, p.leaf(bad), "P15.1: Leaf, a short salt")
			expect(t, p.leaf(m), leaf, "P15.1: Leaf, behind a refused one", p)
			nothing(t, p.sign(m, sum[:31]), "P15.1: Sign, a short sum")
			expect(t, p.sign(m, sum), sig, "P15.1: Sign, behind a refused one", p)
			nothing(t, p.stands(m.Seed, sum, sig[:sigLen-1]), "P15.2: Stands, a short signature")
			expect(t, p.stands(m.Seed, sum, sig), leaf, "P15.3: Stands, behind a refused one", p)
			another(t, p.stands(m.Salt, sum, sig), leaf, "P15.2: Stands, another seed", p)
			p.sign(rows.Masked(74), make([]byte, rowLen))
		}
	}
}
