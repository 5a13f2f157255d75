package hss_test

import (
	"bytes"
	"encoding/binary"
	"math"
	"slices"
	"testing"

	"tearoff/api"
	"tearoff/hss"
	"tearoff/rows"
)

// told: a row that tells places, and a code.
func told(places []uint32, e api.Code) []byte {
	out := []byte{byte(e)}
	for _, q := range places {
		out = binary.BigEndian.AppendUint32(out, q)
	}
	return out
}

// P13.2, P13.3: what was handed in stays as it was, its spare room too, and isn't shared nor kept; nor do answers share memory.
func TestKeepsApart(t *testing.T) {
	each(t, few(), func(t *testing.T, l []api.Pair) {
		text, s, n := rows.Mixed(30, 91), rows.Seed(size(l), 92), hss.Total(l)-1
		pub, sig := public(t, l, s), sign(t, l, s, n, text)
		seed := func(in [][]byte) api.Seed { return api.Seed{Name: in[0], Secret: in[1]} }
		for what, call := range map[string]func(in [][]byte) []byte{
			"Public": func(in [][]byte) []byte { got, _ := hss.Public(l, seed(in)); return got },
			"Public, refused": func(in [][]byte) []byte {
				got, _ := hss.Public(l, api.Seed{Name: in[1], Secret: in[0]})
				return got
			},
			"Sign":           func(in [][]byte) []byte { got, _ := hss.Sign(l, seed(in), n, in[2]); return got },
			"Sign, no index": func(in [][]byte) []byte { got, _ := hss.Sign(l, seed(in), n+1, in[2]); return got },
			"Fits":           func(in [][]byte) []byte { return rows.Yes(hss.Fits(in[3], in[2], in[4])) },
			"Fits, refused":  func(in [][]byte) []byte { return rows.Yes(hss.Fits(in[3], in[2], in[4][:9])) },
			"Read":           func(in [][]byte) []byte { return told(hss.Read(in[3], in[4])) },
			"Read, refused":  func(in [][]byte) []byte { return told(hss.Read(in[3], in[4][:9])) },
		} {
			if how := rows.Apart(call, s.Name, s.Secret, text, pub, sig); how != "" {
				t.Errorf("P13: %v, %v: %v", what, name(l), how)
			}
		}
	})
}

// P13.3: the places that Read tells may be written over: no other answer hangs on them.
func TestReadKeepsApart(t *testing.T) {
	for _, l := range few() {
		places := make([]uint32, len(l))
		for i := range places {
			places[i] = uint32(i) + 1<<30
		}
		pub, sig := bare(l, places, 93)
		first, _ := hss.Read(pub, sig)
		second, _ := hss.Read(pub, sig)
		full := second[:cap(second)]
		for i := range full {
			full[i] = 7
		}
		if !slices.Equal(first, places) {
			t.Errorf("P13.3: Read, %v, beside an answer that was written over: %v, not %v", name(l), first, places)
		}
		names(t, pub, sig, places, "behind an answer that was written over", name(l))
	}
}

// P13.1 to P13.3: a call that finds something wrong leaves nothing behind, and a call tells the same each time.
func TestAfterRefused(t *testing.T) {
	text, long := []byte("a text"), make([]byte, api.MaxText+1)
	for _, l := range few() {
		s := rows.Seed(size(l), 94)
		bad := api.Seed{Name: s.Name[:15], Secret: s.Secret}
		pub, sig := publicByHand(t, l, s), signedByHand(t, l, s, 1, text)
		for range 2 {
			noPublic(t, l, bad, api.Arg, "a short name")
			expect(t, public(t, l, s), pub, "P13.2: Public, behind a refused one", name(l))
			noSign(t, l, s, math.MaxUint64, text, api.Exhausted, "no index")
			noSign(t, l, s, 1, long, api.Arg, "a long text")
			noSign(t, nil, s, 1, text, api.Unknown, "no levels")
			expect(t, sign(t, l, s, 1, text), sig, "P13.2: Sign, behind a refused one", name(l))
			none(t, pub, long, sig, "a long text", name(l))
			none(t, pub[:7], text, sig, "a short public key", name(l))
			fits(t, pub, text, sig, "behind a refused one", name(l))
			noRead(t, pub, sig[:9], api.Short, "a short signature", name(l))
			names(t, pub, sig, placesByHand(l, 1), "behind a refused one", name(l))
			noPlaces(t, l, hss.Total(l), api.Exhausted)
			expectPlaces(t, l, 1, placesByHand(l, 1)...)
			noBelow(t, l[0], bad, 1, api.Arg)
			expect(t, below(t, l[0], s, 1).Secret, belowByHand(l[0], s, 1).Secret, "P13.1: Below, behind a refused one", name(l))
		}
	}
}

// P13.2: an index may sign again: it tells the same of the same text, and nothing of an index hangs on what others signed.
func TestAnyOrder(t *testing.T) {
	each(t, few(), func(t *testing.T, l []api.Pair) {
		s := rows.Seed(size(l), 95)
		for _, n := range append(ends(l), 1, 0, hss.Total(l)-1) {
			for _, text := range [][]byte{[]byte("one text"), nil, []byte("one text")} {
				expect(t, sign(t, l, s, n, text), signedByHand(t, l, s, n, text), "P13.2: Sign, again", name(l), n)
			}
		}
		expect(t, public(t, l, s), publicByHand(t, l, s), "P13.2: Public, behind signatures", name(l))
	})
}

// P13.2, P13.3: rows that share memory are taken as they stand, each up to its own end.
func TestShared(t *testing.T) {
	for _, l := range few() {
		b := rows.Mixed(64, 96)
		s := api.Seed{Name: b[:16], Secret: b[8 : 8+size(l)]}
		apart := api.Seed{Name: bytes.Clone(s.Name), Secret: bytes.Clone(s.Secret)}
		text := bytes.Clone(b[12:50])
		pub, sig := publicByHand(t, l, apart), signedByHand(t, l, apart, 1, text)
		expect(t, public(t, l, s), pub, "P13.2: Public, of rows that share memory", name(l))
		expect(t, sign(t, l, s, 1, b[12:50]), sig, "P13.2: Sign, of rows that share memory", name(l))
		whole := slices.Concat(text, pub, sig)
		n, m := len(text), len(text)+len(pub)
		fits(t, whole[n:m], whole[:n], whole[m:], "rows that share memory", name(l))
		names(t, whole[n:m], whole[m:], placesByHand(l, 1), "rows that share memory", name(l))
		expect(t, b, rows.Mixed(64, 96), "P13.2: what is shared", name(l))
	}
}
