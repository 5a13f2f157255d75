package keccak_test

import (
	"crypto/sha3"
	"encoding/binary"
	"math"
	"testing"

	"tearoff/keccak"
	"tearoff/rows"
)

// words and rounds are how many there are; rate is how many bytes of a state SHAKE256 gives before it turns it about.
const (
	words  = 25
	rounds = 24
	rate   = 136
)

// published are the state of nothing but 0 turned about once, and twice, as others have told them.
var published = [2][words]uint64{
	{
		0xf1258f7940e1dde7, 0x84d5ccf933c0478a, 0xd598261ea65aa9ee, 0xbd1547306f80494d, 0x8b284e056253d057,
		0xff97a42d7f8e6fd4, 0x90fee5a0a44647c4, 0x8c5bda0cd6192e76, 0xad30a6f71b19059c, 0x30935ab7d08ffc64,
		0xeb5aa93f2317d635, 0xa9a6e6260d712103, 0x81a57c16dbcf555f, 0x43b831cd0347c826, 0x01f22f1a11a5569f,
		0x05e5635a21d9ae61, 0x64befef28cc970f2, 0x613670957bc46611, 0xb87c5a554fd00ecb, 0x8c3ee88a1ccf32c8,
		0x940c7922ae3a2614, 0x1841f924a2c509e4, 0x16f53526e70465c2, 0x75f644e97f30a13b, 0xeaf1ff7b5ceca249,
	},
	{
		0x2d5c954df96ecb3c, 0x6a332cd07057b56d, 0x093d8d1270d76b6c, 0x8a20d9b25569d094, 0x4f9c4f99e5e7f156,
		0xf957b9a2da65fb38, 0x85773dae1275af0d, 0xfaf4f247c3d810f7, 0x1f1b9ee6f79a8759, 0xe4fecc0fee98b425,
		0x68ce61b6b9ce68a1, 0xdeea66c4ba8f974f, 0x33c43d836eafb1f5, 0xe00654042719dbd9, 0x7cf8a9f009831265,
		0xfd5449a6bf174743, 0x97ddad33d8994b40, 0x48ead5fc5d0be774, 0xe3b8c8ee55b7b03c, 0x91a0226e649e42e9,
		0x900e3129e7badd7b, 0x202a9ec5faa3cce8, 0x5b3402464e1c3db6, 0x609f4e62a44c1059, 0x20d06cd26a8fbf5c,
	},
}

// noRounds are numbers that no round has.
var noRounds = []int{-1, -2, -23, -24, -25, 24, 25, 31, 32, 47, 48, 256, 1 << 32, 1<<32 + 1, math.MaxInt32, math.MinInt32, math.MaxInt, math.MinInt}

// mixed: a state whose words aren't alike.
func mixed(start byte) [words]uint64 {
	var a [words]uint64
	b := rows.Mixed(8*words, start)
	for i := range a {
		a[i] = binary.LittleEndian.Uint64(b[8*i:])
	}
	return a
}

// even: a state each of whose words is w.
func even(w uint64) [words]uint64 {
	var a [words]uint64
	for i := range a {
		a[i] = w
	}
	return a
}

// some: states of several kinds.
func some() [][words]uint64 {
	out := [][words]uint64{{}, even(math.MaxUint64), even(1), even(1 << 63), even(0xaaaaaaaaaaaaaaaa), even(0x0123456789abcdef), published[0], published[1]}
	for i := range 12 {
		out = append(out, mixed(byte(i)))
	}
	return out
}

// flipped: a, with the bit n of it another one.
func flipped(a [words]uint64, n int) [words]uint64 {
	a[n/64] ^= 1 << (n % 64)
	return a
}

// known: a state turned about, from elsewhere: from a reader of SHAKE256 that is kept as bytes and taken up again where it turns its state about next.
func known(t *testing.T, a [words]uint64) [words]uint64 {
	t.Helper()
	const at = 5 // behind the reader's mark and its rate
	kept, err := sha3.NewSHAKE256().MarshalBinary()
	if err != nil || len(kept) != at+8*words+2 {
		t.Fatal(len(kept), err)
	}
	for i, w := range a {
		binary.LittleEndian.PutUint64(kept[at+8*i:], w)
	}
	kept[at+8*words], kept[at+8*words+1] = rate, 1
	r := sha3.NewSHAKE256()
	if err := r.UnmarshalBinary(kept); err != nil {
		t.Fatal(err)
	}
	r.Read(make([]byte, 1))
	if kept, err = r.MarshalBinary(); err != nil {
		t.Fatal(err)
	}
	var out [words]uint64
	for i := range out {
		out[i] = binary.LittleEndian.Uint64(kept[at+8*i:])
	}
	return out
}

// expect tells where a state isn't the one that it must be.
func expect(t *testing.T, what string, got, want [words]uint64) {
	t.Helper()
	if got == want {
		return
	}
	for i := range got {
		if got[i] != want[i] {
			t.Errorf("%s: A(%v, %v) is %#x, not %#x", what, i%5, i/5, got[i], want[i])
			return
		}
	}
}

// P4.1: RC, at every place, by the chapter's rule.
func TestRC(t *testing.T) {
	for i := range rounds {
		if got, want := keccak.RC(i), ruled(i); got != want {
			t.Errorf("P4.1: RC(%v): %#x, not %#x", i, got, want)
		}
	}
}

// P4.1: RC, the chapter's examples, and some that are published.
func TestRCPublished(t *testing.T) {
	for i, want := range map[int]uint64{0: 1, 1: 0x8082, 2: 0x800000000000808a, 3: 0x8000000080008000, 11: 0x8000000a, 12: 0x8000808b, 17: 0x8000000000000080, 22: 0x80000001, 23: 0x8000000080008008} {
		if got := keccak.RC(i); got != want {
			t.Errorf("P4.1: RC(%v): %#x, not %#x", i, got, want)
		}
	}
}

// P4.1: RC, outside of the rounds.
func TestRCOutside(t *testing.T) {
	for _, i := range noRounds {
		if got := keccak.RC(i); got != 0 {
			t.Errorf("P4.1: RC(%v): %#x, not 0", i, got)
		}
	}
}

// P4.1: each round alone, of states of several kinds.
func TestRound(t *testing.T) {
	for i := range rounds {
		for _, a := range some() {
			expect(t, "P4.1: Round", keccak.Round(a, i), round(cubeOf(a), i).words())
		}
	}
}

// P4.1: a round, of every state that has one bit, and of every one that lacks one.
func TestRoundBits(t *testing.T) {
	for n := range 64 * words {
		for _, a := range [][words]uint64{flipped(even(0), n), flipped(even(math.MaxUint64), n)} {
			expect(t, "P4.1: Round, of one bit", keccak.Round(a, n%rounds), round(cubeOf(a), n%rounds).words())
		}
	}
}

// P4.1: a round that there isn't leaves the state as it is.
func TestRoundOutside(t *testing.T) {
	for _, i := range noRounds {
		for _, a := range some() {
			expect(t, "P4.1: Round, of no round", keccak.Round(a, i), a)
		}
	}
}

// P4.1: step 1 by itself: one bit goes, too, into all of the column at its one side, and of the one behind that at its other side.
func TestStep1(t *testing.T) {
	for n := range 64 * words {
		x, z := n/64%5, n%64
		want := flipped([words]uint64{}, n)
		for y := range 5 {
			want = flipped(want, 64*(5*y+(x+1)%5)+z)
			want = flipped(want, 64*(5*y+(x+4)%5)+(z+1)%64)
		}
		c := undo5(keccak.Round(flipped([words]uint64{}, n), n%rounds), n%rounds)
		expect(t, "P4.1: step 1", undo2(undo3(undo4(c))).words(), want)
	}
}

// P4.1: step 1 by itself: where each column has an even number of bits, none goes elsewhere.
func TestStep1Even(t *testing.T) {
	for n := range 64 * words {
		a := flipped(flipped([words]uint64{}, n), (n+64*5)%(64*words))
		c := undo5(keccak.Round(a, n%rounds), n%rounds)
		expect(t, "P4.1: step 1, even columns", undo2(undo3(undo4(c))).words(), a)
	}
}

// P4.1: step 2 by itself: how far each bit is turned. Two bits of one column, so that step 1 leaves them where they are.
func TestStep2(t *testing.T) {
	far := turnings()
	for n := range 64 * words {
		m := (n + 64*5) % (64 * words)
		a := flipped(flipped([words]uint64{}, n), m)
		var want [words]uint64
		want = flipped(want, n-n%64+(n+far[n/64%5][n/320])%64)
		want = flipped(want, m-m%64+(m+far[m/64%5][m/320])%64)
		c := undo5(keccak.Round(a, n%rounds), n%rounds)
		expect(t, "P4.1: step 2", undo3(undo4(c)).words(), want)
	}
}

// P4.1: step 3 by itself: where each word goes. Two words of one column, all of whose bits are 1, so that steps 1 and 2 leave them as they are.
func TestStep3(t *testing.T) {
	for x := range 5 {
		for y := range 5 {
			for other := range y {
				var a, want [words]uint64
				a[x+5*y], a[x+5*other] = math.MaxUint64, math.MaxUint64
				want[y+5*((2*x+3*y)%5)], want[other+5*((2*x+3*other)%5)] = math.MaxUint64, math.MaxUint64
				c := undo5(keccak.Round(a, x), x)
				expect(t, "P4.1: step 3", undo4(c).words(), want)
			}
		}
	}
}

// P4.1: step 4 by itself: each row of five bits that there can be, in each row of words.
func TestStep4(t *testing.T) {
	for start := range 32 {
		var b, want [words]uint64
		for y := range 5 {
			for z := range 64 {
				row := uint64(start + y + z)
				for x := range 5 {
					one, next, behind := row>>x&1, row>>((x+1)%5)&1, row>>((x+2)%5)&1
					b[x+5*y] |= one << z
					want[x+5*y] |= (one ^ (1-next)*behind) << z
				}
			}
		}
		a := undo1(undo2(undo3(cubeOf(b)))).words()
		expect(t, "P4.1: step 4", undo5(keccak.Round(a, start%rounds), start%rounds).words(), want)
	}
}

// P4.1: step 5 by itself: of the state of nothing but 0, which the others leave as it is, RC is left; and two rounds tell apart by it alone.
func TestStep5(t *testing.T) {
	for i := range rounds {
		expect(t, "P4.1: step 5", keccak.Round([words]uint64{}, i), [words]uint64{ruled(i)})
		for _, a := range some() {
			want := keccak.Round(a, 0)
			want[0] ^= 1 ^ ruled(i)
			expect(t, "P4.1: step 5, of two rounds", keccak.Round(a, i), want)
		}
	}
}

// P4.1: published states behind the whole turning.
func TestPermutePublished(t *testing.T) {
	expect(t, "P4.1: Permute, once", keccak.Permute([words]uint64{}), published[0])
	expect(t, "P4.1: Permute, twice", keccak.Permute(published[0]), published[1])
}

// P4.1: the whole turning, of states of several kinds, of all that have one bit, and of all that lack one.
func TestPermute(t *testing.T) {
	for _, a := range some() {
		expect(t, "P4.1: Permute", keccak.Permute(a), known(t, a))
	}
	for n := range 64 * words {
		for _, a := range [][words]uint64{flipped(even(0), n), flipped(even(math.MaxUint64), n)} {
			expect(t, "P4.1: Permute, of one bit", keccak.Permute(a), known(t, a))
		}
	}
}

// P4.1: the whole turning, again and again.
func TestPermuteOften(t *testing.T) {
	a := mixed(100)
	for range 1000 {
		next := keccak.Permute(a)
		expect(t, "P4.1: Permute, often", next, known(t, a))
		a = next
	}
}

// P4.1: the whole turning is the rounds 0 to 23, one behind the other, both the program's and the chapter's.
func TestPermuteIsRounds(t *testing.T) {
	for _, a := range some() {
		b, c := a, cubeOf(a)
		for i := range rounds {
			b, c = keccak.Round(b, i), round(c, i)
		}
		expect(t, "P4.1: rounds", b, keccak.Permute(a))
		expect(t, "P4.1: the chapter's rounds", c.words(), keccak.Permute(a))
	}
}

// P4.1: what is answered hangs on what is handed in alone, and that stays as it is.
func TestKeepsApart(t *testing.T) {
	for _, a := range some() {
		was, behind, all := a, keccak.Round(a, 5), keccak.Permute(a)
		for _, b := range some() {
			keccak.Round(b, 5)
			keccak.Permute(b)
		}
		expect(t, "P4.1: Round, again", keccak.Round(a, 5), behind)
		expect(t, "P4.1: Permute, again", keccak.Permute(a), all)
		expect(t, "P4.1: what was handed in", a, was)
	}
}

// P4.2: what a round made can be undone, and so can all: from unlike states come unlike ones.
func TestUndone(t *testing.T) {
	for _, a := range some() {
		b := keccak.Permute(a)
		for i := rounds - 1; i >= 0; i-- {
			expect(t, "P4.2: a round undone", undo(keccak.Round(a, i), i), a)
			b = undo(b, i)
		}
		expect(t, "P4.2: all undone", b, a)
	}
}

// P4.2: states that are unlike in one bit, and in one row of bits, stay unlike, behind each round and behind all.
func TestUnlike(t *testing.T) {
	for _, a := range [][words]uint64{{}, even(math.MaxUint64), mixed(200)} {
		for i := range rounds {
			distinct(t, "a round", near(a), func(b [words]uint64) [words]uint64 { return keccak.Round(b, i) })
		}
		distinct(t, "a round that there isn't", near(a), func(b [words]uint64) [words]uint64 { return keccak.Round(b, rounds) })
		distinct(t, "all", near(a), keccak.Permute)
	}
}

// near: a, all that are unlike it in one bit, and all that are unlike it in more bits of one row.
func near(a [words]uint64) [][words]uint64 {
	out := [][words]uint64{a}
	for n := range 64 * words {
		out = append(out, flipped(a, n))
	}
	for row := range 32 {
		b := a
		for x := range 5 {
			b[10+x] ^= uint64(row>>x&1) << 17
		}
		if row&(row-1) != 0 {
			out = append(out, b)
		}
	}
	return out
}

// distinct tells where of these states, no two of which are alike, two become alike.
func distinct(t *testing.T, what string, list [][words]uint64, become func([words]uint64) [words]uint64) {
	t.Helper()
	from := map[[words]uint64]int{}
	for i, a := range list {
		b := become(a)
		if j, ok := from[b]; ok {
			t.Errorf("P4.2: behind %v the states %v and %v are alike", what, i, j)
		}
		from[b] = i
	}
}
