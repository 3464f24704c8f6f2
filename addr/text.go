package addr

import (
	"math"
	"strings"

	"snicket/api"
	"snicket/num"
)

// Print tells the text of an address.
func Print(a []byte) (string, api.Code) {
	var l []string
	switch len(a) {
	case short:
		for _, x := range a {
			l = append(l, num.Print(uint64(x)))
		}
		return strings.Join(l, "."), api.Fine
	case long:
		for x, y := range twos(a) {
			l = append(l, num.Hex([]byte{x, y}))
		}
		return strings.Join(l, ":"), api.Fine
	}
	return "", api.Form
}

// Read tells the address whose text s is, as a whole.
func Read(s string) ([]byte, api.Code) {
	if a, ok := readShort(s); ok {
		return a, api.Fine
	}
	if a, ok := readLong(s); ok {
		return a, api.Fine
	}
	return nil, api.Form
}

// PrintPrefix tells the text of a plain prefix.
func PrintPrefix(p api.Prefix) (string, api.Code) {
	s, e := Print(p.Addr)
	if e != api.Fine || !isPlain(p) {
		return "", api.Form
	}
	return s + "/" + num.Print(uint64(p.Bits)), api.Fine
}

// ReadPrefix tells the plain prefix whose text s is, as a whole.
func ReadPrefix(s string) (api.Prefix, api.Code) {
	before, after, _ := strings.Cut(s, "/") // without a slash, nothing is after it, which is no number's text
	a, e := Read(before)
	if e != api.Fine {
		return api.Prefix{}, api.Form
	}
	bits, e := num.Read(after)
	if e != api.Fine || bits > 8*long {
		return api.Prefix{}, api.Form
	}
	p := api.Prefix{Addr: a, Bits: int(bits)}
	if !isPlain(p) {
		return api.Prefix{}, api.Form
	}
	return p, api.Fine
}

// readShort reads the text of an address of 4 bytes, and tells whether s is one.
func readShort(s string) ([]byte, bool) {
	l, ok := fields(s, ".", short)
	if !ok {
		return nil, false
	}
	var a []byte
	for _, f := range l {
		u, e := num.Read(f)
		if e != api.Fine || u > math.MaxUint8 {
			return nil, false
		}
		a = append(a, byte(u))
	}
	return a, true
}

// readLong reads the text of an address of 16 bytes, and tells whether s is one.
func readLong(s string) ([]byte, bool) {
	l, ok := fields(s, ":", long/2)
	if !ok {
		return nil, false
	}
	var a []byte
	for _, f := range l {
		two, e := num.ReadHex(f)
		if e != api.Fine || len(two) != 2 {
			return nil, false
		}
		a = append(a, two...)
	}
	return a, true
}

// fields tells what stands between the signs, and whether there are just n such fields.
func fields(s, sign string, n int) ([]string, bool) {
	l := strings.SplitN(s, sign, n+1) // one more tells of all that are too many
	return l, len(l) == n
}
