// Package num is layer 1: numbers and bytes as texts. See shared/doc/01-num.md.
package num

import (
	"math"

	"snicket/api"
)

// signs are the digits of both bases, each at the place that is its value.
const signs = "0123456789abcdef"

// Print tells a number's text.
func Print(u uint64) string {
	var room [20]byte // 2^64 - 1 has 20 digits
	i := len(room)
next:
	i--
	room[i] = signs[u%10]
	u /= 10
	if u > 0 {
		goto next
	}
	return string(room[i:])
}

// Read tells the number whose text s is, as a whole.
func Read(s string) (uint64, api.Code) {
	// All signs are looked at ahead of the sum: a wrong one counts for more than too many.
	if s == "" || s[0] == '0' && len(s) > 1 || !digits(s, 10) {
		return 0, api.Form
	}
	u, i := uint64(0), 0
next:
	if i == len(s) {
		return u, api.Fine
	}
	d := value(rune(s[i]))
	if u > (math.MaxUint64-d)/10 {
		return 0, api.Long
	}
	u = u*10 + d
	i++
	goto next
}

// Hex tells the text of bytes.
func Hex(b []byte) string {
	var out []byte
	i := 0
next:
	if i == len(b) {
		return string(out)
	}
	out = append(out, signs[b[i]>>4], signs[b[i]&15])
	i++
	goto next
}

// ReadHex tells the bytes whose text s is.
func ReadHex(s string) ([]byte, api.Code) {
	if !digits(s, 16) {
		return nil, api.Form
	}
	if len(s)%2 == 1 {
		return nil, api.Short
	}
	var out []byte
	i := 0
next:
	if i == len(s) {
		return out, api.Fine
	}
	out = append(out, byte(value(rune(s[i]))<<4|value(rune(s[i+1]))))
	i += 2
	goto next
}

// digits tells whether s has digits of that base alone.
func digits(s string, base uint64) bool {
	i := 0
next:
	if i == len(s) {
		return true
	}
	if value(rune(s[i])) >= base {
		return false
	}
	i++
	goto next
}

// value tells what a digit stands for, and of any other sign 16, which no base has.
// (A sign of several bytes comes byte by byte, each of them above all digits.)
func value(r rune) uint64 {
	switch {
	case '0' <= r && r <= '9':
		return uint64(r - '0')
	case 'a' <= r && r <= 'f':
		return uint64(r-'a') + 10
	}
	return 16
}
