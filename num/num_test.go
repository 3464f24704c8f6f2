package num

import (
	"bytes"
	"math/big"
	"strconv"
	"strings"
	"testing"

	"snicket/api"
)

// numbers are the ends of all sizes, and what is around them.
func numbers() []uint64 {
	out := []uint64{0, 1, 9, 10, 11, 99, 100, 101, 1<<64 - 2, 1<<64 - 1}
	for bit := range 64 {
		u := uint64(1) << bit
		out = append(out, u-1, u, u+1, ^u)
	}
	for u := uint64(1); u <= 1e18; u *= 10 {
		out = append(out, u-1, u, u+1, 9*u, u*10-1)
	}
	x := uint64(88172645463325252)
	for range 2000 {
		x ^= x << 13
		x ^= x >> 7
		x ^= x << 17
		out = append(out, x, x>>(x%64))
	}
	return out
}

// P1.1: a number's text.
func TestPrint(t *testing.T) {
	for _, u := range numbers() {
		if got, want := Print(u), strconv.FormatUint(u, 10); got != want {
			t.Errorf("Print(%s) = %q", want, got)
		}
	}
}

// P1.1: the number whose text it is.
func TestRead(t *testing.T) {
	for _, u := range numbers() {
		if got, e := Read(strconv.FormatUint(u, 10)); got != u || e != api.Fine {
			t.Errorf("Read(%d) = %d, %d", u, got, e)
		}
	}
}

func readFails(t *testing.T, s string, want api.Code) {
	t.Helper()
	if u, e := Read(s); u != 0 || e != want {
		t.Errorf("Read(%.40q) = %d, %d, not 0, %d", s, u, e, want)
	}
}

// P1.1: Form of no bytes, of a byte that is no digit, of a 0 ahead of others.
func TestReadForm(t *testing.T) {
	for _, s := range []string{
		"", "00", "01", "000", "0123", "018446744073709551615", "-", "+", "-0", "-1", "+1",
		" 1", "1 ", " ", "1\n", "1\x00", "\x00", "1_000", "1,0", "1.0", "1e3", "0x10", "a", "f",
		"ff", "1a", "a1", "1f2", "0a", "\u0663", "1\u0663", "\uff11", "\u00b2", "\xff", "1\x80", "\xb1",
		"/", ":", "1/", "1:", "NaN",
	} {
		readFails(t, s, api.Form)
	}
	for b := range 256 {
		one := string([]byte{byte(b)})
		if b >= '0' && b <= '9' {
			if u, e := Read(one); u != uint64(b-'0') || e != api.Fine {
				t.Errorf("Read(%q) = %d, %d", one, u, e)
			}
			continue
		}
		readFails(t, one, api.Form)
		readFails(t, one+"1", api.Form)
		readFails(t, "1"+one, api.Form)
		readFails(t, "1"+one+"1", api.Form)
	}
}

// P1.1: Long above 2^64 - 1, however far above, also where the sum would go round.
func TestReadLong(t *testing.T) {
	end := new(big.Int).Lsh(big.NewInt(1), 64)
	for i := range int64(3000) {
		readFails(t, new(big.Int).Add(end, big.NewInt(i)).String(), api.Long)
	}
	for k := int64(2); k < 300; k++ {
		around := new(big.Int).Mul(end, big.NewInt(k))
		for i := int64(-12); i <= 12; i++ {
			readFails(t, new(big.Int).Add(around, big.NewInt(i)).String(), api.Long)
		}
	}
	for _, s := range []string{"99999999999999999999", "100000000000000000000", "20000000000000000000"} {
		readFails(t, s, api.Long)
	}
	readFails(t, strings.Repeat("9", 100000), api.Long)
	readFails(t, "1"+strings.Repeat("0", 100000), api.Long)
}

// P1.1: Form is looked for ahead of Long.
func TestReadFormAheadOfLong(t *testing.T) {
	readFails(t, "99999999999999999999x", api.Form)
	readFails(t, "x99999999999999999999", api.Form)
	readFails(t, "099999999999999999999", api.Form)
	readFails(t, strings.Repeat("0", 100000), api.Form)
	readFails(t, strings.Repeat("9", 100000)+"\u0663", api.Form)
}

// P1.2: two signs for each byte, the higher digit first.
func TestHex(t *testing.T) {
	for _, b := range [][]byte{nil, {}} {
		if got := Hex(b); got != "" {
			t.Errorf("Hex(%v) = %q", b, got)
		}
	}
	for _, c := range []struct {
		b []byte
		s string
	}{
		{[]byte{10, 255}, "0aff"}, {[]byte{0}, "00"}, {[]byte{0, 0, 0}, "000000"}, {[]byte{0x0f, 0xf0}, "0ff0"},
		{[]byte{0x12, 0x34, 0x56, 0x78, 0x9a, 0xbc, 0xde}, "123456789abcde"},
	} {
		was := bytes.Clone(c.b)
		if got := Hex(c.b); got != c.s || !bytes.Equal(c.b, was) {
			t.Errorf("Hex(%v) = %q, not %q", was, got, c.s)
		}
	}
	for x := range 256 {
		want := strconv.FormatInt(int64(0x100+x), 16)[1:]
		if got := Hex([]byte{byte(x)}); got != want {
			t.Errorf("Hex of %d = %q, not %q", x, got, want)
		}
	}
}

// P1.2: the bytes whose text it is; another sign is told ahead of one sign too few.
func TestReadHex(t *testing.T) {
	for _, c := range []struct {
		s string
		b string
		e api.Code
	}{
		{"", "", api.Fine}, {"0aff", "\x0a\xff", api.Fine}, {"00", "\x00", api.Fine}, {"123456789abcdef0", "\x12\x34\x56\x78\x9a\xbc\xde\xf0", api.Fine},
		{"0", "", api.Short}, {"f", "", api.Short}, {"000", "", api.Short}, {"0aff1", "", api.Short},
		{"g", "", api.Form}, {"0g", "", api.Form}, {"g0", "", api.Form}, {"0g0", "", api.Form}, {"00g", "", api.Form}, {"0000g", "", api.Form},
		{"0A", "", api.Form}, {"A0", "", api.Form}, {"FF", "", api.Form}, {"F", "", api.Form}, {"0x", "", api.Form}, {"0x00", "", api.Form},
		{" ", "", api.Form}, {" 00", "", api.Form}, {"00 ", "", api.Form}, {"0 0", "", api.Form}, {"-", "", api.Form}, {"00\n", "", api.Form},
		{"\x00\x00", "", api.Form}, {"\u0663", "", api.Form}, {"0\u0663", "", api.Form}, {"\uff41", "", api.Form}, {"\xff\xff", "", api.Form}, {"\xff", "", api.Form},
	} {
		if b, e := ReadHex(c.s); string(b) != c.b || e != c.e {
			t.Errorf("ReadHex(%q) = %v, %d, not %q, %d", c.s, b, e, c.b, c.e)
		}
	}
}

// P1.2: of all texts of one sign, and of two, those of digits alone are fine, or short.
func TestReadHexAllShortTexts(t *testing.T) {
	const digits = "0123456789abcdef"
	for x := range 1 << 16 {
		s := string([]byte{byte(x >> 8), byte(x)})
		high, low := strings.IndexByte(digits, s[0]), strings.IndexByte(digits, s[1])
		b, e := ReadHex(s)
		if high < 0 || low < 0 {
			if len(b) != 0 || e != api.Form {
				t.Errorf("ReadHex(%q) = %v, %d", s, b, e)
			}
		} else if len(b) != 1 || int(b[0]) != high*16+low || e != api.Fine {
			t.Errorf("ReadHex(%q) = %v, %d", s, b, e)
		}
	}
	for x := range 256 {
		want := api.Form
		if strings.IndexByte(digits, byte(x)) >= 0 {
			want = api.Short
		}
		if b, e := ReadHex(string([]byte{byte(x)})); len(b) != 0 || e != want {
			t.Errorf("ReadHex of the sign %d = %v, %d", x, b, e)
		}
	}
}

// R4: what is told is the caller's.
func TestReadHexTellsNewBytes(t *testing.T) {
	first, _ := ReadHex("0102")
	first[0] = 9
	if again, _ := ReadHex("0102"); !bytes.Equal(again, []byte{1, 2}) {
		t.Errorf("the second time: %v", again)
	}
}

// P1.3: what is printed is read.
func TestPrintedIsRead(t *testing.T) {
	for _, u := range numbers() {
		if got, e := Read(Print(u)); got != u || e != api.Fine {
			t.Errorf("Read(Print(%d)) = %d, %d", u, got, e)
		}
	}
	var b []byte
	for i := range 3000 {
		if got, e := ReadHex(Hex(b)); !bytes.Equal(got, b) || e != api.Fine {
			t.Fatalf("ReadHex(Hex(..)) of %d bytes = %v, %d", len(b), got, e)
		}
		b = append(b, byte(i*i>>3))
	}
}

// P1.3: what is read is printed as it was.
func TestReadIsPrinted(t *testing.T) {
	const signs = "019afgA- x"
	texts := []string{""}
	for i := 0; len(texts[i]) < 5; i++ {
		for _, r := range signs {
			texts = append(texts, texts[i]+string(r))
		}
	}
	var numbers, hexes int
	for _, s := range texts {
		if u, e := Read(s); e == api.Fine {
			numbers++
			if got := Print(u); got != s {
				t.Errorf("Print(Read(%q)) = %q", s, got)
			}
		}
		if b, e := ReadHex(s); e == api.Fine {
			hexes++
			if got := Hex(b); got != s {
				t.Errorf("Hex(ReadHex(%q)) = %q", s, got)
			}
		}
	}
	// Of 0, 1, 9: 3 of one sign, and 2 * 3^(n-1) of n; of 0, 1, 9, a, f: 5^n of n even.
	if numbers != 3+6+18+54+162 || hexes != 1+25+625 {
		t.Errorf("read: %d numbers, %d texts of bytes", numbers, hexes)
	}
}
