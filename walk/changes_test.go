package walk_test

import (
	"bytes"
	"math"
	"math/rand/v2"
	"strconv"
	"strings"
	"testing"

	"tearoff/rows"
	"tearoff/walk"
)

// changes tells where not as many sums change as must be.
func changes(t *testing.T, q uint32, want int) {
	t.Helper()
	if got := walk.Changes(q); got != want {
		t.Errorf("P24.2: Changes(%#x): %v, not %v", q, got, want)
	}
}

// ones: how many bits 1 there are at the lower end of q, read off its letters.
func ones(q uint32) int {
	text := "0" + strconv.FormatUint(uint64(q), 2)
	return len(text) - len(strings.TrimRight(text, "1"))
}

// P24.2: Changes, written out.
func TestChangesWrittenOut(t *testing.T) {
	for q, want := range []int{1, 2, 1, 3, 1, 2, 1, 4, 1, 2, 1, 3, 1, 2, 1, 5, 1} {
		changes(t, uint32(q), want)
	}
	for q, want := range map[uint32]int{
		math.MaxUint32: 33, math.MaxUint32 - 1: 1, math.MaxUint32 - 2: 2, 0x7fffffff: 32, 0xbfffffff: 31, 0x80000000: 1, 0x80000001: 2,
		255: 9, 256: 1, 1023: 11, 0xffff: 17, 0x10000: 1, 0xff00ff: 9, 0xffff0000: 1, 0xfffffeff: 9, 0xaaaaaaaa: 1, 0x55555555: 2,
	} {
		changes(t, q, want)
	}
}

// P24.2: numbers whose lower end is ones alone, up to the greatest one, and with other bits above the first 0.
func TestChangesOfOnes(t *testing.T) {
	m := rand.New(rand.NewPCG(24, 1))
	for n := range 33 {
		low := uint32(uint64(1)<<n - 1)
		changes(t, low, n+1)
		for bit := n + 1; bit < 32; bit++ {
			changes(t, low|1<<bit, n+1)
			changes(t, low|math.MaxUint32<<bit, n+1)
		}
		for range 50 {
			// Shifted in two steps, since all 32 bits may go.
			changes(t, low|uint32(uint64(m.Uint32())<<(n+1)), n+1)
		}
	}
}

// P24.2: of a row of numbers beginning at 0 half change one sum, half of the others two, and so on; the last one changes one more than the row tells.
func TestChangesOfRows(t *testing.T) {
	for n := range 17 {
		count := map[int]int{}
		for q := range uint32(1) << n {
			count[walk.Changes(q)]++
		}
		for c := 1; c <= n; c++ {
			if count[c] != 1<<(n-c) {
				t.Errorf("P24.2: of the first 2^%v numbers %v change %v, not %v", n, count[c], c, 1<<(n-c))
			}
		}
		if count[n+1] != 1 || len(count) != n+1 {
			t.Errorf("P24.2: of the first 2^%v numbers: %v", n, count)
		}
	}
}

// P24.2: numbers of any bits.
func TestChangesOfMixed(t *testing.T) {
	m := rand.New(rand.NewPCG(24, 2))
	for range 100000 {
		q := m.Uint32() >> m.IntN(32)
		changes(t, q, ones(q)+1)
		changes(t, ^q, ones(^q)+1)
		changes(t, q-1, ones(q-1)+1)
	}
}

// P24.2: so many sums of a leaf's way aren't those of the next one's, and these are the first ones.
func TestChangesOfWays(t *testing.T) {
	for _, s := range rows.TreesOf(1, 10) {
		k := plain(s, 46).begin(t)
		ahead := k.tells()
		for q := range rows.Leaves(s) - 1 {
			made := k.w.Made()
			way := k.tells()
			n := walk.Changes(uint32(q))
			for h := range way {
				if same := bytes.Equal(way[h], ahead[h]); same != (h >= n) {
					t.Errorf("P24.2: tree %#x, the ways of %v and the next leaf at %v: alike: %v, Changes %v", s.Code, q, h, same, n)
				}
			}
			if got := k.w.Made() - made; got != n || got > s.H {
				t.Errorf("P24.2: Made, tree %#x, behind %v: %v more, Changes %v", s.Code, q, got, n)
			}
			ahead = way
		}
	}
}
