package addr

import (
	"bytes"
	"fmt"
	"math"
	"math/big"
	"math/rand"
	"regexp"
	"slices"
	"strconv"
	"strings"

	"snicket/api"
)

// The model says the chapter's words by bits written out, by ranges of great numbers, and by patterns of texts.

// ends are numbers of bits at int's ends, around those that can be, and where 8 times something goes round.
func ends() []int {
	return []int{math.MinInt, math.MinInt + 1, math.MinInt + 8, math.MinInt32, math.MinInt / 8, -1 << 32, -256, -129, -128, -33, -32, -9, -8, -7, -1,
		129, 130, 136, 160, 255, 256, 257, 264, 288, 512, 1 << 16, math.MaxInt32, 1 << 32, 1<<32 + 8, 1<<32 + 32, math.MaxInt / 8, math.MaxInt/8 + 1, 1 << 62, 1<<62 + 24, math.MaxInt - 128, math.MaxInt - 8, math.MaxInt - 1, math.MaxInt}
}

// lists are bytes of all small counts: addresses, and none.
func lists() [][]byte {
	l := [][]byte{nil, {}}
	for n := range 40 {
		l = append(l, make([]byte, n), bytes.Repeat([]byte{0xff}, n), bytes.Repeat([]byte{0xa5}, n))
	}
	return append(l, make([]byte, 128), make([]byte, 256), make([]byte, 260), make([]byte, 1<<16))
}

// addresses are ordinary ones, those at the ends, and some at random.
func addresses(r *rand.Rand, n int) [][]byte {
	var l [][]byte
	for _, size := range []int{4, 16} {
		for _, x := range []byte{0, 1, 0x7f, 0x80, 0xa5, 0xfe, 0xff} {
			l = append(l, bytes.Repeat([]byte{x}, size))
		}
		for i := range size {
			for _, x := range []byte{1, 0x10, 0x80, 0xff} {
				one := make([]byte, size)
				one[i] = x
				l = append(l, one)
			}
		}
		for range n {
			one := make([]byte, size)
			for i := range one {
				one[i] = byte(r.Intn(256))
			}
			l = append(l, one)
		}
	}
	return append(l, []byte{10, 0, 0, 7}, []byte{127, 0, 0, 1}, []byte{192, 168, 100, 255})
}

// bitsOf writes all bits out, the highest one of the first byte first.
func bitsOf(a []byte) string {
	var b strings.Builder
	for _, x := range a {
		fmt.Fprintf(&b, "%08b", x)
	}
	return b.String()
}

// ofBits tells the bytes of bits that are written out.
func ofBits(s string) []byte {
	a := []byte{}
	for i := 0; i < len(s); i += 8 {
		x, err := strconv.ParseUint(s[i:i+8], 2, 8)
		if err != nil {
			panic(err)
		}
		a = append(a, byte(x))
	}
	return a
}

func modelRight(p api.Prefix) bool {
	return slices.Contains([]int{4, 16}, len(p.Addr)) && p.Bits >= 0 && p.Bits <= len(bitsOf(p.Addr))
}

func modelPlain(p api.Prefix) (api.Prefix, api.Code) {
	if !modelRight(p) {
		return api.Prefix{}, api.Form
	}
	all := bitsOf(p.Addr)
	return api.Prefix{Addr: ofBits(all[:p.Bits] + strings.Repeat("0", len(all)-p.Bits)), Bits: p.Bits}, api.Fine
}

func modelHas(p api.Prefix, a []byte) bool {
	return modelRight(p) && len(a) == len(p.Addr) && strings.HasPrefix(bitsOf(a), bitsOf(p.Addr)[:p.Bits])
}

// span tells the first and the last address of a right prefix, as numbers.
func span(p api.Prefix) (*big.Int, *big.Int) {
	size := big.NewInt(1)
	size.Lsh(size, uint(8*len(p.Addr)-p.Bits))
	low := new(big.Int).SetBytes(p.Addr)
	low.Sub(low, new(big.Int).Mod(low, size))
	high := new(big.Int).Add(low, size)
	return low, high.Sub(high, big.NewInt(1))
}

func modelWithin(p, q api.Prefix) bool {
	if !modelRight(p) || !modelRight(q) || len(p.Addr) != len(q.Addr) {
		return false
	}
	low, high := span(p)
	first, last := span(q)
	return first.Cmp(low) <= 0 && high.Cmp(last) <= 0
}

func modelPrint(a []byte) string {
	var l []any
	switch len(a) {
	case 4:
		for _, x := range a {
			l = append(l, x)
		}
		return fmt.Sprintf("%d.%d.%d.%d", l...)
	case 16:
		for i := 0; i < len(a); i += 2 {
			l = append(l, uint(a[i])<<8|uint(a[i+1]))
		}
		return fmt.Sprintf("%04x:%04x:%04x:%04x:%04x:%04x:%04x:%04x", l...)
	}
	return ""
}

func modelPrintPrefix(p api.Prefix) string {
	if q, e := modelPlain(p); e != api.Fine || !bytes.Equal(p.Addr, q.Addr) {
		return ""
	}
	return fmt.Sprintf("%s/%d", modelPrint(p.Addr), p.Bits)
}

const (
	oneByte = `(0|[1-9]|[1-9][0-9]|1[0-9][0-9]|2[0-4][0-9]|25[0-5])`
	oneTwo  = `([0-9a-f]{4})`
)

var (
	shortForm  = regexp.MustCompile(`\A` + oneByte + strings.Repeat(`[.]`+oneByte, 3) + `\z`)
	longForm   = regexp.MustCompile(`\A` + oneTwo + strings.Repeat(`:`+oneTwo, 7) + `\z`)
	prefixForm = regexp.MustCompile(`\A([^/]*)/(0|[1-9][0-9]{0,2})\z`)
)

// modelRead tells nil of no address's text.
func modelRead(s string) []byte {
	var a []byte
	if m := shortForm.FindStringSubmatch(s); m != nil {
		for _, f := range m[1:] {
			x, _ := strconv.Atoi(f)
			a = append(a, byte(x))
		}
	}
	if m := longForm.FindStringSubmatch(s); m != nil {
		for _, f := range m[1:] {
			x, _ := strconv.ParseUint(f, 16, 16)
			a = append(a, byte(x>>8), byte(x))
		}
	}
	return a
}

// modelReadPrefix tells one without an address of no plain prefix's text.
func modelReadPrefix(s string) api.Prefix {
	m := prefixForm.FindStringSubmatch(s)
	if m == nil {
		return api.Prefix{}
	}
	bits, _ := strconv.Atoi(m[2])
	p := api.Prefix{Addr: modelRead(m[1]), Bits: bits}
	if q, e := modelPlain(p); e != api.Fine || !bytes.Equal(p.Addr, q.Addr) {
		return api.Prefix{}
	}
	return p
}

// near tells all texts that are one sign away from s: one out, one in, one another.
func near(s string, signs []string) []string {
	l := []string{s}
	for i := range len(s) + 1 {
		for _, x := range signs {
			l = append(l, s[:i]+x+s[i:])
			if i < len(s) {
				l = append(l, s[:i]+x+s[i+1:])
			}
		}
		if i < len(s) {
			l = append(l, s[:i]+s[i+1:])
		}
	}
	return l
}

// samePrefix holds two prefixes against each other.
func samePrefix(p, q api.Prefix) bool {
	return bytes.Equal(p.Addr, q.Addr) && p.Bits == q.Bits
}
