package hss_test

import (
	"math"
	"slices"
	"testing"

	"tearoff/api"
	"tearoff/chain"
	"tearoff/hss"
	"tearoff/once"
	"tearoff/rows"
)

// belowByHand: the seed below, put together by hand from layer 10.
func belowByHand(p api.Pair, s api.Seed, q uint32) api.Seed {
	o, _ := rows.SetsOf(p)
	return api.Seed{Name: once.Secret(o, s, q, 0xffff)[:16], Secret: once.Secret(o, s, q, 0xfffe)}
}

// below: the seed below, of a pair that may be.
func below(t *testing.T, p api.Pair, s api.Seed, q uint32) api.Seed {
	t.Helper()
	got, e := hss.Below(p, s, q)
	if o, _ := rows.SetsOf(p); e != api.OK || len(got.Name) != 16 || len(got.Secret) != o.N {
		t.Fatalf("P13.1: Below(%+v), place %v: %v, %x", p, q, e, got)
	}
	return got
}

// noBelow tells where Below doesn't answer this code, and nothing beside it.
func noBelow(t *testing.T, p api.Pair, s api.Seed, q uint32, want api.Code) {
	t.Helper()
	if got, e := hss.Below(p, s, q); e != want || len(got.Name) != 0 || len(got.Secret) != 0 {
		t.Errorf("P13.1: Below(%+v), place %v, bytes of name and secret %v, %v: %v, %x, not %v", p, q, len(s.Name), len(s.Secret), e, got, want)
	}
}

// edges: the places at the edges of a pair's tree, and such as there aren't: the seed below is told of them, too.
func edges(p api.Pair) []uint32 {
	n := uint32(leaves(p))
	return append(rows.Places(), n/2-1, n/2, n-1, n, n+1, 2*n, math.MaxUint32-n)
}

// P13.1: the seed below each pair that may be, at the edges of its places, and of seeds of noughts, of ones, and with spare room.
func TestBelow(t *testing.T) {
	for _, p := range rows.Pairs() {
		o, _ := rows.SetsOf(p)
		for _, s := range rows.Seeds(o.N) {
			for _, q := range edges(p) {
				got, want := below(t, p, s, q), belowByHand(p, s, q)
				expect(t, got.Name, want.Name, "P13.1: Below, the name", p, q)
				expect(t, got.Secret, want.Secret, "P13.1: Below, the secret", p, q)
			}
		}
	}
}

// P13.1: the seed below, from sums of layer 9: of the name, the place, the word, a byte 255, and the secret.
func TestBelowOfSums(t *testing.T) {
	for sort := range sumCount {
		p := pair(sort, 4, 2)
		o, _ := rows.SetsOf(p)
		s := rows.Seed(o.N, 61)
		for _, q := range edges(p) {
			got := below(t, p, s, q)
			expect(t, got.Name, chain.Part(o.Kind, o.N, s.Name, q, 0xffff, []byte{255}, s.Secret)[:16], "P13.1: Below, the name", p, q)
			expect(t, got.Secret, chain.Part(o.Kind, o.N, s.Name, q, 0xfffe, []byte{255}, s.Secret), "P13.1: Below, the secret", p, q)
		}
	}
}

// P13.1: no seed below of a pair that may not be, whatever the seed is: Unknown.
func TestBelowUnknown(t *testing.T) {
	for _, p := range rows.NoPairs() {
		for _, s := range []api.Seed{rows.Seed(24, 62), rows.Seed(32, 62), {}, {Name: rows.Mixed(15, 62), Secret: rows.Mixed(32, 63)}, {Name: rows.Mixed(16, 62), Secret: rows.Mixed(31, 63)}} {
			noBelow(t, p, s, 0, api.Unknown)
			noBelow(t, p, s, math.MaxUint32, api.Unknown)
		}
	}
}

// P13.1: no seed below of seeds that may not be of the pair, by their name, their secret, or both: Arg.
func TestBelowArg(t *testing.T) {
	for _, p := range rows.Pairs() {
		o, _ := rows.SetsOf(p)
		for _, n := range []int{15, 17} {
			noBelow(t, p, api.Seed{Name: rows.Mixed(n, 64), Secret: rows.Mixed(o.N, 65)}, 1, api.Arg)
		}
		for _, n := range []int{o.N - 1, o.N + 1} {
			noBelow(t, p, api.Seed{Name: rows.Mixed(16, 64), Secret: rows.Mixed(n, 65)}, 1, api.Arg)
		}
		for _, s := range rows.NoSeeds(o.N) {
			noBelow(t, p, s, 0, api.Arg)
			noBelow(t, p, s, math.MaxUint32, api.Arg)
		}
	}
}

// P13.1: the seed below may be of the pair again, and those of unlike places, names and secrets are unlike, in the name and in the secret.
func TestBelowUnlike(t *testing.T) {
	for sort := range sumCount {
		p := pair(sort, 2, 3)
		o, _ := rows.SetsOf(p)
		s := rows.Seed(o.N, 66)
		seen := map[string]string{string(s.Name): "the seed", string(s.Secret): "the seed"}
		add := func(what string, s api.Seed) {
			if !once.May(o, s) {
				t.Errorf("P13.1: Below(%+v), %v: bytes of name and secret %v, %v", p, what, len(s.Name), len(s.Secret))
			}
			for _, b := range [][]byte{s.Name, s.Secret, s.Secret[:16]} {
				if was := seen[string(b)]; was != "" {
					t.Errorf("P13.1: Below(%+v), %v, is as %v", p, what, was)
				}
				seen[string(b)] = what
			}
		}
		for q := range uint32(300) {
			add("a place", below(t, p, s, q))
		}
		add("a far place", below(t, p, s, math.MaxUint32))
		for i := range s.Name {
			add("another name", below(t, p, api.Seed{Name: rows.Turned(s.Name, i), Secret: s.Secret}, 3))
		}
		for i := range s.Secret {
			add("another secret", below(t, p, api.Seed{Name: s.Name, Secret: rows.Turned(s.Secret, i)}, 3))
		}
		add("below the seed below", below(t, p, below(t, p, s, 3), 3))
	}
}

// P13.1: the rows of a seed below aren't shared with the seed's, nor with each other.
func TestBelowKeepsApart(t *testing.T) {
	for sort := range sumCount {
		p := pair(sort, 8, 25)
		o, _ := rows.SetsOf(p)
		s := rows.Seed(o.N, 67)
		rowsOf := func(s api.Seed, _ api.Code) [][]byte { return [][]byte{s.Name, s.Secret} }
		for what, call := range map[string]func(in [][]byte) [][]byte{
			"told":    func(in [][]byte) [][]byte { return rowsOf(hss.Below(p, api.Seed{Name: in[0], Secret: in[1]}, 5)) },
			"refused": func(in [][]byte) [][]byte { return rowsOf(hss.Below(p, api.Seed{Name: in[1], Secret: in[0]}, 5)) },
		} {
			if how := rows.ApartList(call, s.Name, s.Secret); how != "" {
				t.Errorf("P13.1: Below(%+v), %v: %v", p, what, how)
			}
		}
		b := rows.Mixed(80, 68)
		shared := api.Seed{Name: b[:16], Secret: b[8 : 8+o.N]}
		apart := api.Seed{Name: slices.Clone(shared.Name), Secret: slices.Clone(shared.Secret)}
		expect(t, below(t, p, shared, 1).Secret, belowByHand(p, apart, 1).Secret, "P13.1: Below, of rows that share memory", p)
		expect(t, b, rows.Mixed(80, 68), "P13.1: Below: what is shared", p)
	}
}
