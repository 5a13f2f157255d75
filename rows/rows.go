// Package rows holds what the tests of the layers have in common: rows of bytes that tell whether a call changed, kept or shared them. No layer calls it.
package rows

// room is what lies behind a guarded row.
const room = "room"

// Guarded: the bytes of b, in memory of its own, with the bytes of "room" as spare room behind them.
func Guarded(b []byte) []byte {
	out := append(make([]byte, 0, len(b)+len(room)), b...)
	copy(out[len(b):cap(out)], room)
	return out
}

// Full: b with its spare room.
func Full(b []byte) string {
	return string(b[:cap(b)])
}

// Flip makes every byte of b another one.
func Flip(b []byte) {
	for i := range b {
		b[i] ^= 255
	}
}
