package fors_test

import (
	"bytes"
	"testing"

	"tearoff/api"
	"tearoff/fors"
	"tearoff/rows"
)

// P17.2, P17.3: what was handed in stays as it was, its spare room too, and isn't shared nor kept; nor do answers share memory: what was answered may be written over.
func TestKeepsApart(t *testing.T) {
	p := place{5, 6}
	of := func(in [][]byte) api.Masked { return api.Masked{Secret: in[0], Salt: in[1], Seed: in[2]} }
	bad := func(in [][]byte) api.Masked { return api.Masked{Secret: in[0], Salt: in[1][1:], Seed: in[2]} }
	for _, f := range append(few(), api.Few{N: 16, Layers: 1, Height: 6, K: 40, A: 6}) {
		m, b := rows.MaskedOf(f.N, 81), rows.Mixed(needed(f), 82)
		for what, call := range map[string]func(in [][]byte) []byte{
			"Whole":               func(in [][]byte) []byte { return p.whole(f, of(in)) },
			"Whole, refused":      func(in [][]byte) []byte { return p.whole(f, bad(in)) },
			"Tell":                func(in [][]byte) []byte { return p.tell(f, of(in), in[3]) },
			"Tell, refused":       func(in [][]byte) []byte { return p.tell(f, bad(in), in[3]) },
			"Tell, too few":       func(in [][]byte) []byte { return p.tell(f, of(in), in[3][1:]) },
			"Tell, of a secret":   func(in [][]byte) []byte { return p.tell(f, of(in), bytes.Repeat(in[0], 2)) },
			"Stands":              func(in [][]byte) []byte { return p.stands(f, in[2], in[3], in[4]) },
			"Stands, too few":     func(in [][]byte) []byte { return p.stands(f, in[2], in[3][1:], in[4]) },
			"Stands, a byte less": func(in [][]byte) []byte { return p.stands(f, in[2], in[3], in[4][1:]) },
			"Stands, itself told": func(in [][]byte) []byte { return p.stands(f, in[2], in[4], in[4]) },
		} {
			if how := rows.Apart(call, m.Secret, m.Salt, m.Seed, b, p.tell(f, m, b)); how != "" {
				t.Errorf("P17: %v, %v: %v", what, f, how)
			}
		}
	}
}

// P17.1: Made leaves its rows as they were, and hangs on no spare room.
func TestMadeKeepsApart(t *testing.T) {
	made := func(in [][]byte) []byte {
		return rows.Yes(fors.Made(base, api.Masked{Secret: in[0], Salt: in[1], Seed: in[2]}))
	}
	for n := 14; n < 18; n++ {
		m := rows.MaskedOf(n, 83)
		if how := rows.Apart(made, m.Secret, m.Salt, m.Seed); how != "" {
			t.Errorf("P17.1: Made, of %v bytes: %v", n, how)
		}
	}
}

// P17.2, P17.3: rows that share memory are taken as they stand, each up to its own end.
func TestShared(t *testing.T) {
	b, p := rows.Mixed(300, 84), place{7, 8}
	for _, f := range few() {
		for at := range 8 {
			m := api.Masked{Secret: b[at:][:f.N], Salt: b[at+3:][:f.N], Seed: b[at+7:][:f.N]}
			text := b[at+5:][:needed(f)]
			g := byOthers.grow(f, m, p)
			expect(t, p.whole(f, m), g.whole, "P17.2: Whole, of rows that share memory", f, at)
			expect(t, p.tell(f, m, text), g.tell(text), "P17.2: Tell, of rows that share memory", f, at)
			if toldLen(f) > 290 {
				continue
			}
			told := b[at+2:][:toldLen(f)]
			expect(t, p.stands(f, m.Seed, text, told), byOthers.stands(f, m.Seed, p, text, told), "P17.3: Stands, of rows that share memory", f, at)
		}
	}
	expect(t, b, rows.Mixed(300, 84), "P17.2: what is shared")
}

// P17.2, P17.3: a refused call leaves nothing behind, and a call tells the same each time, whatever was asked between.
func TestAfterRefused(t *testing.T) {
	p := place{9, 10}
	for _, f := range few() {
		m, other := rows.MaskedOf(f.N, 85), rows.MaskedOf(f.N, 86)
		bad := api.Masked{Secret: m.Secret, Salt: m.Salt, Seed: m.Seed[1:]}
		b := rows.Mixed(needed(f), 87)
		g := byOthers.grow(f, m, p)
		for range 2 {
			nothing(t, p.whole(f, bad), "P17.2: Whole, a short seed", f)
			nothing(t, p.tell(f, bad, b), "P17.2: Tell, a short seed", f)
			nothing(t, p.stands(f, bad.Seed, b, g.tell(b)), "P17.3: Stands, a short seed", f)
			expect(t, p.whole(f, m), g.whole, "P17.2: Whole, behind a refused one", f)
			expect(t, p.tell(f, m, b), g.tell(b), "P17.2: Tell, behind a refused one", f)
			expect(t, p.stands(f, m.Seed, b, g.tell(b)), g.whole, "P17.3: Stands, behind a refused one", f)
			unlike(t, p.whole(f, other), g.whole, "P17.2: Whole, of others", f)
			unlike(t, p.tell(f, other, b), g.tell(b), "P17.2: Tell, of others", f)
			unlike(t, place{10, 9}.whole(f, m), g.whole, "P17.2: Whole, elsewhere", f)
			unlike(t, p.stands(f, other.Seed, b, g.tell(b)), g.whole, "P17.3: Stands, another seed", f)
		}
	}
}
