package rows

import "tearoff/api"

// Numbers is what mixed numbers come of.
type Numbers interface {
	IntN(n int) int
	Uint32() uint32
}

// MixedRow: so many bytes.
func MixedRow(m Numbers, n int) []byte {
	out := make([]byte, n)
	for i := range out {
		out[i] = byte(m.Uint32())
	}
	return out
}

// MixedPlan: a plan by which something happens often within some saves.
func MixedPlan(m Numbers) api.Plan {
	var p api.Plan
	for range m.IntN(3) {
		p.Fail = append(p.Fail, m.IntN(20)+1)
	}
	if m.IntN(2) == 0 {
		p.Stop = m.IntN(20) + 1
	}
	return p
}
