package lms_test

import (
	"bytes"
	"encoding/binary"
	"math"
	"testing"

	"tearoff/api"
	"tearoff/lms"
	"tearoff/rows"
)

// noPair tells where Pair doesn't answer this code, and nothing beside it.
func noPair(t *testing.T, public []byte, want api.Code, what ...any) {
	t.Helper()
	if got, e := lms.Pair(public); e != want || got != (api.Pair{}) {
		t.Errorf("P12.2: Pair, %v, %v bytes: %v, %+v, not %v", what, len(public), e, got, want)
	}
}

// codes: the codes of a pair as a public key begins with them.
func codes(p api.Pair) []byte {
	return binary.BigEndian.AppendUint32(binary.BigEndian.AppendUint32(nil, p.Tree), p.Ots)
}

// P12.2: the pair of a public key, of every pair that may be, whoever made it.
func TestPair(t *testing.T) {
	for _, f := range families() {
		for _, rest := range [][]byte{rows.Mixed(16+f.o.N, 41), make([]byte, 16+f.o.N), bytes.Repeat([]byte{255}, 16+f.o.N)} {
			for _, b := range [][]byte{append(codes(f.pair), rest...), rows.Guarded(append(codes(f.pair), rest...))} {
				if got, e := lms.Pair(b); e != api.OK || got != f.pair {
					t.Errorf("P12.2: Pair: %v, %+v, not %+v", e, got, f.pair)
				}
			}
		}
	}
	for _, f := range few() {
		if got, e := lms.Pair(public(t, f, rows.Seed(f.o.N, 42))); e != api.OK || got != f.pair {
			t.Errorf("P12.2: Pair of Public: %v, %+v, not %+v", e, got, f.pair)
		}
	}
}

// P12.2: public keys of fewer than 8 bytes, whichever they are: Short.
func TestPairShort(t *testing.T) {
	noPair(t, nil, api.Short, "nothing")
	for _, f := range families() {
		whole := append(codes(f.pair), make([]byte, 16+f.o.N)...)
		for n := range 8 {
			noPair(t, whole[:n], api.Short, "spare room behind", f.pair)
			noPair(t, bytes.Clone(whole[:n]), api.Short, f.pair)
			noPair(t, rows.Mixed(n, byte(f.o.Code)), api.Short, "any bytes")
		}
	}
}

// P12.2: public keys whose codes aren't those of a pair that may be, whatever their length: Unknown.
func TestPairUnknown(t *testing.T) {
	for _, p := range rows.NoPairs() {
		for _, n := range []int{0, 1, 16, 39, 40, 41, 47, 48, 49, 100, 70000} {
			noPair(t, append(codes(p), make([]byte, n)...), api.Unknown, p)
		}
	}
	noPair(t, make([]byte, 48), api.Unknown, "noughts")
	noPair(t, bytes.Repeat([]byte{255}, 56), api.Unknown, "ones")
}

// P12.2: public keys of another length than their pair's, from 8 bytes on: Length.
func TestPairLength(t *testing.T) {
	for _, f := range families() {
		whole := append(codes(f.pair), rows.Mixed(400, 43)...)
		for n := 8; n < len(whole); n++ {
			if n != f.publicLen() {
				noPair(t, whole[:n], api.Length, "spare room behind", f.pair)
				noPair(t, bytes.Clone(whole[:n]), api.Length, f.pair)
			}
		}
		for _, n := range []int{256 + f.publicLen(), 1<<16 + f.publicLen(), f.sigLen()} {
			noPair(t, append(codes(f.pair), make([]byte, n-8)...), api.Length, f.pair)
		}
	}
}

// noTake tells where Take doesn't answer this code, and nothing beside it.
func noTake(t *testing.T, p api.Pair, b []byte, want api.Code, what ...any) {
	t.Helper()
	if sig, rest, e := lms.Take(p, b); e != want || len(sig) != 0 || len(rest) != 0 {
		t.Errorf("P12.2: Take(%+v), %v, %v bytes: %v, %v and %v bytes, not %v", p, what, len(b), e, len(sig), len(rest), want)
	}
}

// P12.2: of every pair that may be, what Take tells of a row that is just long enough, longer, a byte too short, and empty; whatever the bytes are.
func TestTake(t *testing.T) {
	for _, f := range families() {
		n := f.sigLen()
		long := rows.Mixed(3*n, 44)
		for _, k := range []int{n, n + 1, n + 2, n + 100, 2*n - 1, 2 * n, 2*n + 1, 3 * n} {
			sig, rest, e := lms.Take(f.pair, long[:k])
			if e != api.OK || !bytes.Equal(sig, long[:n]) || !bytes.Equal(rest, long[n:k]) {
				t.Errorf("P12.2: Take(%+v) of %v bytes: %v, %v and %v bytes", f.pair, k, e, len(sig), len(rest))
			}
		}
		for _, k := range []int{0, 1, 3, 4, 8, 24, n / 2, n - f.o.N, n - 2, n - 1} {
			noTake(t, f.pair, long[:k], api.Short, "spare room behind")
			noTake(t, f.pair, bytes.Clone(long[:k]), api.Short, "fewer")
		}
		noTake(t, f.pair, nil, api.Short, "nothing")
	}
}

// P12.2: nothing of pairs that may not be, whatever the bytes are: Unknown.
func TestTakeUnknown(t *testing.T) {
	long := rows.Mixed(10000, 45)
	for _, p := range rows.NoPairs() {
		for _, n := range []int{0, 1, 780, 1308, len(long)} {
			noTake(t, p, long[:n], api.Unknown, "no pair")
		}
		noTake(t, p, nil, api.Unknown, "no pair, nothing")
	}
	noTake(t, api.Pair{Ots: math.MaxUint32, Tree: math.MaxUint32}, long, api.Unknown, "the greatest codes")
}

// P12.2: signatures one behind the other are taken one by one, until nothing is left.
func TestTakeAll(t *testing.T) {
	for _, f := range few() {
		s := rows.Seed(f.o.N, 46)
		pub, h := public(t, f, s), byHand(f, s)
		var b []byte
		for _, q := range f.all() {
			b = append(b, h.signed(q, []byte{byte(q)})...)
		}
		for _, q := range f.all() {
			sig, rest, e := lms.Take(f.pair, b)
			if e != api.OK {
				t.Fatalf("P12.2: Take(%+v), the %v. one: %v", f.pair, q, e)
			}
			fits(t, pub, []byte{byte(q)}, sig, "taken", f.pair, q)
			b = rest
		}
		if len(b) != 0 {
			t.Errorf("P12.2: Take(%+v): %v bytes are left", f.pair, len(b))
		}
	}
}
