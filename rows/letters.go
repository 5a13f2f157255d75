package rows

import (
	"strconv"
	"strings"
)

// Bits: the bits of bytes as letters, from the front on.
func Bits(b []byte) string {
	var out strings.Builder
	for _, c := range b {
		out.WriteString(letters(int(c), 2, 8))
	}
	return out.String()
}

// FromBits: the number that such letters tell; 0, if there are none.
func FromBits(text string) uint64 { return number("0"+text, 2) }

// Digits: all digits of a sum, of width 4, read off its letters of base 16, and off those of what they lack.
func Digits(sum []byte) []int {
	text, lack := "", 0
	for _, c := range sum {
		text += letters(int(c), 16, 2)
	}
	for _, c := range text {
		lack += 15 - digit(c)
	}
	var out []int
	for _, c := range text + letters(lack, 16, 3) {
		out = append(out, digit(c))
	}
	return out
}

// digit: what a letter of base 16 tells.
func digit(c rune) int { return int(number(string(c), 16)) }

// letters: the last n letters of a number, of a base.
func letters(v, base, n int) string {
	text := strings.Repeat("0", n) + strconv.FormatInt(int64(v), base)
	return text[len(text)-n:]
}

// number: what letters of a base tell.
func number(text string, base int) uint64 {
	v, err := strconv.ParseUint(text, base, 64)
	if err != nil {
		panic(err)
	}
	return v
}
