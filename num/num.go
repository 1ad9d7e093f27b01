// Package num is layer 1, numbers in fields of bytes: see shared/doc/01-num.md.
package num

import (
	"math"

	"oakum/api"
)

// The first byte of a wide field tells the sign of its number.
const (
	notBelow = 128
	below    = 255
)

// The widths into which numbers are put.
const (
	leastWidth = 2
	mostWidth  = 32
)

const blank = ' '

// Octal is the number of an octal field.
func Octal(b []byte) (int64, api.Code) {
	digits := behindBlanks(b)
	var u uint64
	i := 0
	for ; i < len(digits) && isDigit(digits[i]); i++ {
		// Three more bits must leave the bit of the sign alone.
		if u>>60 != 0 {
			return 0, api.Numeral
		}
		u = u<<3 | uint64(digits[i]-'0')
	}
	if !isFiller(digits[i:]) {
		return 0, api.Numeral
	}
	return int64(u), api.Fine
}

func behindBlanks(b []byte) []byte {
	i := 0
	for i < len(b) && b[i] == blank {
		i++
	}
	return b[i:]
}

func isDigit(c byte) bool { return '0' <= c && c <= '7' }

func isFiller(b []byte) bool {
	for _, c := range b {
		if c != 0 && c != blank {
			return false
		}
	}
	return true
}

// Wide is the number of a wide field.
func Wide(b []byte) (int64, api.Code) {
	if !isWide(b) {
		return 0, api.Numeral
	}
	// Bits of the sign ahead take 256 to the power of the bytes' count away.
	var sign uint64
	if b[0] == below {
		sign = math.MaxUint64
	}
	u := sign
	for _, c := range b[1:] {
		// What is shifted out, and the bit that tells the sign then, must be sign alone.
		if u>>55 != sign>>55 {
			return 0, api.Numeral
		}
		u = u<<8 | uint64(c)
	}
	return int64(u), api.Fine
}

func isWide(b []byte) bool {
	return len(b) >= 2 && (b[0] == notBelow || b[0] == below)
}

// Get is the number of a field, whose first byte tells which kind it is.
func Get(b []byte) (int64, api.Code) {
	if len(b) > 0 && b[0] >= notBelow {
		return Wide(b)
	}
	return Octal(b)
}

// Put is n in w bytes: octal if it can be, else wide if that is allowed.
func Put(n int64, w int, wide bool) ([]byte, api.Code) {
	switch {
	case w < leastWidth || w > mostWidth:
		return nil, api.Arg
	case n >= 0 && n <= Most(w):
		return putOctal(n, w), api.Fine
	case wide && fitsWide(n, w):
		return putWide(n, w), api.Fine
	}
	return nil, api.Numeral
}

func putOctal(n int64, w int) []byte {
	digits := w
	if n <= Most(w-1) {
		digits = w - 1
	}
	b := make([]byte, w)
	for i := digits - 1; i >= 0; i-- {
		b[i] = '0' + byte(n&7)
		n >>= 3
	}
	return b
}

func fitsWide(n int64, w int) bool {
	// A shift by 64 and more leaves the sign alone, too: eight bytes hold any n.
	above := n >> (8 * (w - 1))
	return above == 0 || above == -1
}

func putWide(n int64, w int) []byte {
	b := make([]byte, w)
	b[0] = notBelow
	if n < 0 {
		b[0] = below
	}
	for i := w - 1; i > 0; i-- {
		b[i] = byte(n)
		n >>= 8
	}
	return b
}

// Most is the greatest number that can be put octal into w bytes.
func Most(w int) int64 {
	switch {
	case w < 1:
		return 0
	case w > 20: // 21 digits hold all 63 bits.
		return math.MaxInt64
	}
	return int64(1)<<(3*w) - 1
}
