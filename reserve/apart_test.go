package reserve_test

import (
	"bytes"
	"testing"

	"tearoff/api"
	"tearoff/reserve"
	"tearoff/rows"
)

// sizesApart are how many bytes heads have of which it is asked whether they are kept apart.
var sizesApart = []int{0, 1, 4, 100, 200}

// P21.1: Bytes keeps its answer apart from the head that it is handed, and from its other answers, and leaves the head as it was, its spare room too.
func TestBytesApart(t *testing.T) {
	x := api.Counted{Total: 9, Batch: 2, Reserved: 4, Next: 1, Retired: true}
	for _, size := range sizesApart {
		how := rows.Apart(func(in [][]byte) []byte {
			b, _ := reserve.Bytes(x, in[0])
			return b
		}, rows.Mixed(size, 1))
		if how != "" {
			t.Errorf("P21.1: Bytes of a head of %v bytes %v", size, how)
		}
	}
}

// P21.1: Read keeps the head that it answers apart from what it is handed, and from its other answers, likewise; also where it tells a code.
func TestReadApart(t *testing.T) {
	x := api.Counted{Total: 9, Batch: 2, Reserved: 4, Next: 4}
	all := [][]byte{nil, rows.Mixed(24, 1), rows.Mixed(30, 1), bytesOf(x, rows.Mixed(201, 1))}
	for _, size := range sizesApart {
		all = append(all, bytesOf(x, rows.Mixed(size, 1)))
	}
	for _, b := range all {
		how := rows.Apart(func(in [][]byte) []byte {
			_, head, _ := reserve.Read(in[0])
			return head
		}, b)
		if how != "" {
			t.Errorf("P21.1: Read of %v bytes %v", len(b), how)
		}
	}
}

// P21.2: New leaves the head that it is handed as it was, its spare room too, and keeps nothing of it: written over behind the call, what is told, saved behind it and opened is what it was.
func TestNewApart(t *testing.T) {
	for _, size := range sizesApart {
		r, want := bare(t, 4), rows.Mixed(size, 1)
		head := rows.Guarded(want)
		was := rows.Full(head)
		r.makes(head, 7, 3)
		r.noMake(head, 7, 3, api.Exists)
		r.noMake(head, 7, 0, api.Arg)
		if rows.Full(head) != was {
			t.Errorf("P21.2: New changes a head of %v bytes", size)
		}
		rows.Flip(head[:cap(head)])
		x := api.Counted{Total: 7, Batch: 3}
		r.is(x, want)
		first := record(4, 1, bytesOf(x, want))
		r.sureOf(first, blank(4))
		r.takes(0)
		x.Reserved, x.Next = 3, 1
		r.is(x, want)
		r.sureOf(first, record(4, 2, bytesOf(x, want)))
		r.opened().is(api.Counted{Total: 7, Batch: 3, Reserved: 3, Next: 3}, want)
	}
}

// P21.2: New that tells a code leaves the head as it was, too, and keeps nothing of it: what is pending is what it was.
func TestCutNewApart(t *testing.T) {
	r, want := bare(t, 1), []byte("head")
	head := rows.Guarded(want)
	was := rows.Full(head)
	r.Plan(api.Plan{Fail: []int{2}})
	r.noMake(head, 7, 3, api.Failed)
	if rows.Full(head) != was {
		t.Error("P21.2: New that fails changes the head")
	}
	rows.Flip(head[:cap(head)])
	r.holds(record(1, 1, bytesOf(api.Counted{Total: 7, Batch: 3}, want)), blank(1))
	r.opened().is(api.Counted{Total: 7, Batch: 3}, want)
}

// P21.3: what Head answered may be written over, its spare room too: asked for again it is as it was, and so is what is saved behind it; what was answered ahead stays. Of a counter that was made, and of one that was opened.
func TestHeadApart(t *testing.T) {
	for _, size := range sizesApart {
		want := rows.Mixed(size, 1)
		for _, r := range []rig{made(t, 4, want, 7, 3), made(t, 4, want, 7, 3).opened()} {
			ahead, head := r.Head(), r.Head()
			rows.Flip(head[:cap(head)])
			head = append(head, 1)
			rows.Flip(head[:cap(head)])
			x := api.Counted{Total: 7, Batch: 3}
			r.is(x, want)
			r.takes(0)
			x.Reserved, x.Next = 3, 1
			r.is(x, want)
			r.sureOf(record(4, 1, bytesOf(api.Counted{Total: 7, Batch: 3}, want)), record(4, 2, bytesOf(x, want)))
			if !bytes.Equal(ahead, want) {
				t.Errorf("P21.3: Head answered ahead: %x, not %x", ahead, want)
			}
		}
	}
}

// P21.3: what State answered may be written over: the counter stays as it was; and what was answered ahead stays, whatever is taken behind it.
func TestStateApart(t *testing.T) {
	r := made(t, 1, nil, 7, 3)
	ahead := r.State()
	x := r.State()
	x.Next, x.Reserved, x.Total, x.Batch, x.Retired = 5, 6, 9, 1, true
	r.is(api.Counted{Total: 7, Batch: 3}, nil)
	r.takesTo(0, 7)
	r.retires(api.OK)
	if ahead != (api.Counted{Total: 7, Batch: 3}) {
		t.Errorf("P21.3: State answered ahead: %+v", ahead)
	}
}

// P21.2: of one that was opened nothing hangs on what the slots told then: the head stays, whatever is saved and loaded by them.
func TestOpenApart(t *testing.T) {
	r := made(t, 2, []byte("head"), 7, 3).opened()
	b, _ := r.Now()
	rows.Flip(b[:cap(b)])
	b, _, _ = r.Load()
	rows.Flip(b[:cap(b)])
	r.takesTo(0, 4)
	r.is(api.Counted{Total: 7, Batch: 3, Reserved: 6, Next: 4}, []byte("head"))
	r.opened().is(api.Counted{Total: 7, Batch: 3, Reserved: 6, Next: 6}, []byte("head"))
}
