package reserve_test

import (
	"testing"

	"tearoff/api"
	"tearoff/rows"
)

// begun: a counter of 7 in batches of 3, of which some are taken; in areas of n sectors, the disk's count at 0.
func begun(t *testing.T, n int, taken uint64) *track {
	t.Helper()
	head := rows.Mixed(11, byte(n))
	k := tracked(made(t, n, head, 7, 3), api.Counted{Total: 7, Batch: 3}, head)
	for range taken {
		k.next()
	}
	k.ups(nil, api.Plan{})
	return k
}

// retired retires it, and tells where that isn't saved, once, or isn't what it is then.
func (k *track) retired() {
	k.Helper()
	k.x.Retired = true
	k.saved()
	k.retires(api.OK)
	k.same()
}

// P21.3: Retire, with all numbers left, some reserved, none reserved, and none left: it is saved as retired, with as many reserved as were, and is so; the next number stays. Once more nothing is saved, and it is told as OK, also while the disk is down.
func TestRetire(t *testing.T) {
	for n := 1; n <= 8; n++ {
		for taken := range uint64(8) {
			k := begun(t, n, taken)
			k.retired()
			for range 2 {
				k.retires(api.OK)
				k.noTake(api.Retired)
				k.same()
			}
			k.Plan(api.Plan{Fail: []int{n + 2}, Stop: n + 2})
			k.retires(api.OK)
			k.Stop()
			k.retires(api.OK)
			k.same()
			if k.x.Next != taken {
				t.Errorf("P21.3: %v taken, but the next one is %v", taken, k.x.Next)
			}
		}
	}
}

// P21.3: opened anew behind Retire it is retired, the next one being what is reserved; Retire saves nothing then.
func TestRetiredOpenedAnew(t *testing.T) {
	for taken := range uint64(8) {
		k := begun(t, 2, taken)
		k.retired()
		k.rig, k.x.Next = k.opened(), k.x.Reserved
		k.same()
		k.noTake(api.Retired)
		k.retires(api.OK)
		k.Stop()
		k.retires(api.OK)
		k.ups(nil, api.Plan{})
		k.same()
		k.rig = k.opened()
		k.same()
	}
}

// P21.3: Retire while the disk is down: Down, and it isn't retired: what is reserved is given out still. When the power comes again it can be retired.
func TestRetireDown(t *testing.T) {
	k := begun(t, 2, 1)
	k.Stop()
	for range 2 {
		k.retires(api.Down)
		k.same()
	}
	k.next()
	k.retires(api.Down)
	k.same()
	k.ups(nil, api.Plan{})
	k.same()
	k.opened().is(api.Counted{Total: 7, Batch: 3, Reserved: 3, Next: 3}, k.head)
	k.retired()
}

// P21.3: Retire of which a write or the flush fails, or at which the power goes: it isn't retired, and gives out the numbers that are left, each once; or it is retired by the next Retire, in the same area.
func TestRetireCut(t *testing.T) {
	for n := 1; n <= 8; n++ {
		for taken := range uint64(8) {
			for at := 1; at <= n+1; at++ {
				for _, code := range []api.Code{api.Failed, api.Down} {
					for _, gives := range []bool{true, false} {
						k := begun(t, n, taken)
						k.Plan(cutPlan(at, code))
						k.retires(code)
						k.counts(at, at-1)
						k.sureOf(k.areas[0], k.areas[1])
						k.ups([]byte{0}, api.Plan{})
						k.same()
						for gives && k.x.Next < 7 {
							k.next()
						}
						k.retired()
					}
				}
			}
		}
	}
}

// P21.3: a Retire that failed is gone on from with no loss of power between, too: by a number that is saved in the same area, and doesn't retire.
func TestRetireFailsThenTakes(t *testing.T) {
	r := made(t, 1, nil, 7, 3)
	r.takesTo(0, 3)
	r.Up(nil, api.Plan{Fail: []int{1, 3}})
	r.retires(api.Failed)
	r.retires(api.Failed)
	r.counts(3, 1)
	r.takes(3)
	x := api.Counted{Total: 7, Batch: 3, Reserved: 6, Next: 6}
	r.sureOf(record(1, 3, bytesOf(x, nil)), record(1, 2, bytesOf(api.Counted{Total: 7, Batch: 3, Reserved: 3}, nil)))
	r.opened().is(x, nil)
	r.takesTo(4, 7)
	r.retires(api.OK)
}

// P21.3: behind a power's end at each write and at the flush of a Retire, by each kind of choice, it is retired as a whole, or not at all; the numbers that were given out aren't given out again.
func TestRetireCutByPower(t *testing.T) {
	for at := 1; at <= 3; at++ {
		rows.Every(at-1, rows.Choices(), func(choices []byte) {
			k := begun(t, 2, 4)
			k.Plan(api.Plan{Stop: at})
			k.retires(api.Down)
			k.ups(choices, api.Plan{})
			r := k.opened()
			x := api.Counted{Total: 7, Batch: 3, Reserved: 6, Next: 6, Retired: r.State().Retired}
			r.is(x, k.head)
			if x.Retired {
				r.noTake(api.Retired)
				return
			}
			r.takes(6)
			r.noTake(api.Exhausted)
			r.retires(api.OK)
		})
	}
}

// P21.3: what a Retire of which the flush failed left pending can be opened: as retired. The counter itself isn't; and behind a loss of it it is opened as it was.
func TestRetirePending(t *testing.T) {
	for taken := range uint64(8) {
		k := begun(t, 2, taken)
		k.Plan(api.Plan{Fail: []int{3}})
		k.retires(api.Failed)
		x := k.x
		x.Next, x.Retired = x.Reserved, true
		q := k.opened()
		q.is(x, k.head)
		q.noTake(api.Retired)
		k.is(k.x, k.head)
		k.ups([]byte{0}, api.Plan{})
		x.Retired = false
		k.opened().is(x, k.head)
		for k.x.Next < 7 {
			k.next()
		}
		k.exhausted()
	}
}
