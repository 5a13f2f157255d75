package climb_test

import (
	"fmt"
	"testing"

	"tearoff/climb"
)

// at: a sum that tells where it is.
func at(height int, i uint32) []byte { return fmt.Appendf(nil, "%v.%v", height, i) }

// above: likewise, with the two below it.
func above(height int, i uint32, left, right []byte) []byte {
	return fmt.Appendf(nil, "%v.%v(%s %s)", height, i, left, right)
}

// The way of each sum of a tree, and of one that is far, written out.
func TestWay(t *testing.T) {
	for _, c := range []struct {
		i      uint32
		height int
		want   string
	}{
		{0, 0, "[]"}, {3, 0, "[]"},
		{0, 1, "[0.1]"}, {1, 1, "[0.0]"}, {6, 1, "[0.7]"},
		{0, 2, "[0.1 1.1]"}, {1, 2, "[0.0 1.1]"}, {2, 2, "[0.3 1.0]"}, {3, 2, "[0.2 1.0]"}, {4, 2, "[0.5 1.3]"},
		{5, 3, "[0.4 1.3 2.0]"}, {1<<32 - 1, 3, "[0.4294967294 1.2147483646 2.1073741822]"},
	} {
		if got := fmt.Sprintf("%s", climb.Way(c.i, c.height, at)); got != c.want {
			t.Errorf("Way, %v up to %v: %v, not %v", c.i, c.height, got, c.want)
		}
	}
}

// Where sums lead, written out: each stands on its own side.
func TestUp(t *testing.T) {
	for _, c := range []struct {
		i    uint32
		ways []string
		want string
	}{
		{5, nil, "x"},
		{0, []string{"a"}, "1.0(x a)"}, {1, []string{"a"}, "1.0(a x)"}, {7, []string{"a"}, "1.3(a x)"},
		{0, []string{"a", "b"}, "2.0(1.0(x a) b)"}, {1, []string{"a", "b"}, "2.0(1.0(a x) b)"},
		{2, []string{"a", "b"}, "2.0(b 1.1(x a))"}, {3, []string{"a", "b"}, "2.0(b 1.1(a x))"},
		{13, []string{"a", "b", "c"}, "3.1(c 2.3(1.6(a x) b))"},
		{1<<32 - 1, []string{"a"}, "1.2147483647(a x)"},
	} {
		var way [][]byte
		for _, w := range c.ways {
			way = append(way, []byte(w))
		}
		if got := string(climb.Up([]byte("x"), c.i, way, above)); got != c.want {
			t.Errorf("Up, %v, %v: %v, not %v", c.i, c.ways, got, c.want)
		}
	}
}

// The way of every sum of a tree leads to the root that is told from all of them.
func TestWayLeadsUp(t *testing.T) {
	var told func(height int, i uint32) []byte
	told = func(height int, i uint32) []byte {
		if height == 0 {
			return at(0, i)
		}
		return above(height, i, told(height-1, 2*i), told(height-1, 2*i+1))
	}
	for height := range 5 {
		for i := range uint32(1) << height {
			if got, want := string(climb.Up(told(0, i), i, climb.Way(i, height, told), above)), string(told(height, 0)); got != want {
				t.Errorf("Up, %v to %v: %v, not %v", i, height, got, want)
			}
		}
	}
}
