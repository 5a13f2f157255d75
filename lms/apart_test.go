package lms_test

import (
	"bytes"
	"math"
	"testing"

	"tearoff/api"
	"tearoff/lms"
	"tearoff/rows"
)

// named: a row that tells a pair.
func named(p api.Pair, e api.Code) []byte {
	return append(codes(p), byte(e))
}

// P12.1, P12.2: what was handed in stays as it was, its spare room too, and isn't shared nor kept; nor do answers share memory.
func TestKeepsApart(t *testing.T) {
	each(t, few(), func(t *testing.T, f family) {
		text, s := rows.Mixed(30, 51), rows.Seed(f.o.N, 52)
		pub, sig := public(t, f, s), sign(t, f, s, 1, text)
		seed := func(in [][]byte) api.Seed { return api.Seed{Name: in[0], Secret: in[1]} }
		for what, call := range map[string]func(in [][]byte) []byte{
			"Public": func(in [][]byte) []byte { got, _ := lms.Public(f.pair, seed(in)); return got },
			"Public, refused": func(in [][]byte) []byte {
				got, _ := lms.Public(f.pair, api.Seed{Name: in[1], Secret: in[0]})
				return got
			},
			"Sign":          func(in [][]byte) []byte { got, _ := lms.Sign(f.pair, seed(in), 1, in[2]); return got },
			"Sign, no leaf": func(in [][]byte) []byte { got, _ := lms.Sign(f.pair, seed(in), f.leaves(), in[2]); return got },
			"Fits":          func(in [][]byte) []byte { return rows.Yes(lms.Fits(in[3], in[2], in[4])) },
			"Fits, refused": func(in [][]byte) []byte { return rows.Yes(lms.Fits(in[3], in[2], in[4][:9])) },
			"Pair":          func(in [][]byte) []byte { return named(lms.Pair(in[3])) },
			"Pair, refused": func(in [][]byte) []byte { return named(lms.Pair(in[3][:9])) },
		} {
			if how := rows.Apart(call, s.Name, s.Secret, text, pub, sig); how != "" {
				t.Errorf("P12: %v, %+v: %v", what, f.pair, how)
			}
		}
	})
}

// P12.2: what Take answers isn't shared with what was handed in, nor one row of it with the other.
func TestTakeKeepsApart(t *testing.T) {
	for _, f := range families() {
		for _, more := range []int{0, 1, 200} {
			take := func(in [][]byte) [][]byte {
				sig, rest, _ := lms.Take(f.pair, in[0])
				return [][]byte{sig, rest}
			}
			if how := rows.ApartList(take, rows.Mixed(f.sigLen()+more, 53)); how != "" {
				t.Errorf("P12.2: Take, %+v, bytes more %v: %v", f.pair, more, how)
			}
		}
		refused := func(in [][]byte) []byte { lms.Take(f.pair, in[0]); return nil }
		if how := rows.Apart(refused, rows.Mixed(f.sigLen()-1, 53)); how != "" {
			t.Errorf("P12.2: Take, %+v, refused: %v", f.pair, how)
		}
	}
}

// P12.1, P12.2: a call that finds something wrong leaves nothing behind, and a call tells the same each time.
func TestAfterRefused(t *testing.T) {
	text, long := []byte("a text"), make([]byte, api.MaxText+1)
	for _, f := range few() {
		h := byHand(f, rows.Seed(f.o.N, 54))
		bad := api.Seed{Name: h.s.Name[:15], Secret: h.s.Secret}
		for range 2 {
			noPublic(t, f.pair, bad, api.Arg, "a short name")
			expect(t, public(t, f, h.s), h.made(), "P12.1: Public, behind a refused one", f.pair)
			noSign(t, f.pair, h.s, math.MaxUint32, text, api.Exhausted, "no leaf")
			noSign(t, f.pair, h.s, 1, long, api.Arg, "a long text")
			expect(t, sign(t, f, h.s, 1, text), h.signed(1, text), "P12.1: Sign, behind a refused one", f.pair)
			none(t, h.made(), long, h.signed(1, text), "a long text", f.pair)
			none(t, h.made()[:7], text, h.signed(1, text), "a short public key", f.pair)
			fits(t, h.made(), text, h.signed(1, text), "behind a refused one", f.pair)
			noPair(t, h.made()[:9], api.Length, "a short public key")
			noTake(t, f.pair, h.made(), api.Short, "a public key")
			if got, e := lms.Pair(h.made()); e != api.OK || got != f.pair {
				t.Errorf("P12.2: Pair, behind a refused one: %v, %+v", e, got)
			}
		}
	}
}

// P12.1: a leaf may sign again: it tells the same of the same text, and nothing of a leaf hangs on what others signed.
func TestAnyOrder(t *testing.T) {
	for _, f := range few() {
		h := byHand(f, rows.Seed(f.o.N, 55))
		for _, q := range append(f.edges(), 1, 0, f.leaves()-1) {
			for _, text := range [][]byte{[]byte("one text"), nil, []byte("one text")} {
				expect(t, sign(t, f, h.s, q, text), h.signed(q, text), "P12.1: Sign, again", f.pair, q)
			}
		}
		expect(t, public(t, f, h.s), h.made(), "P12.1: Public, behind signatures", f.pair)
	}
}

// P12.1, P12.2: rows that share memory are taken as they stand, each up to its own end.
func TestShared(t *testing.T) {
	for _, f := range few() {
		b := rows.Mixed(64, 56)
		s := api.Seed{Name: b[:16], Secret: b[8 : 8+f.o.N]}
		h := byHand(f, api.Seed{Name: bytes.Clone(s.Name), Secret: bytes.Clone(s.Secret)})
		text := bytes.Clone(b[12:50])
		expect(t, public(t, f, s), h.made(), "P12.1: Public, of rows that share memory", f.pair)
		expect(t, sign(t, f, s, 1, b[12:50]), h.signed(1, text), "P12.1: Sign, of rows that share memory", f.pair)
		all := append(append(bytes.Clone(text), h.made()...), h.signed(1, text)...)
		n, m := len(text), len(text)+f.publicLen()
		fits(t, all[n:m], all[:n], all[m:], "rows that share memory", f.pair)
		expect(t, b, rows.Mixed(64, 56), "P12.1: what is shared", f.pair)
	}
}
