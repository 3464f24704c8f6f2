package addr

import (
	"bytes"
	"math/rand"
	"strconv"
	"strings"
	"testing"

	"snicket/api"
)

// texts are some addresses and the texts that they have.
func texts() map[string][]byte {
	return map[string][]byte{
		"10.0.0.7": {10, 0, 0, 7}, "0.0.0.0": {0, 0, 0, 0}, "255.255.255.255": {255, 255, 255, 255}, "1.20.100.200": {1, 20, 100, 200}, "9.99.199.249": {9, 99, 199, 249}, "250.254.0.10": {250, 254, 0, 10},
		"0000:0000:0000:0000:0000:0000:0000:0000": make([]byte, 16), "ffff:ffff:ffff:ffff:ffff:ffff:ffff:ffff": bytes.Repeat([]byte{255}, 16),
		"0001:0203:0405:0607:0809:0a0b:0c0d:0e0f": {0, 1, 2, 3, 4, 5, 6, 7, 8, 9, 10, 11, 12, 13, 14, 15}, "fd00:1000:0010:0001:00ff:ff00:abcd:ef98": {0xfd, 0, 0x10, 0, 0, 0x10, 0, 1, 0, 0xff, 0xff, 0, 0xab, 0xcd, 0xef, 0x98},
	}
}

func readFails(t *testing.T, s string) {
	t.Helper()
	if a, e := Read(s); len(a) != 0 || e != api.Form {
		t.Errorf("Read(%.60q) = %v, %d", s, a, e)
	}
}

func readPrefixFails(t *testing.T, s string) {
	t.Helper()
	if p, e := ReadPrefix(s); len(p.Addr) != 0 || p.Bits != 0 || e != api.Form {
		t.Errorf("ReadPrefix(%.60q) = %v, %d", s, p, e)
	}
}

// P4.2: an address's text, and the address whose text it is.
func TestTexts(t *testing.T) {
	for s, a := range texts() {
		if got, e := Print(a); got != s || e != api.Fine {
			t.Errorf("Print(%v) = %q, %d", a, got, e)
		}
		if got, e := Read(s); !bytes.Equal(got, a) || e != api.Fine {
			t.Errorf("Read(%q) = %v, %d", s, got, e)
		}
	}
}

// P4.2: Form of no address.
func TestPrintForm(t *testing.T) {
	for _, a := range lists() {
		s, e := Print(a)
		if ok := len(a) == 4 || len(a) == 16; ok != (e == api.Fine) || ok != (s != "") || !ok && e != api.Form {
			t.Errorf("Print of %d bytes = %q, %d", len(a), s, e)
		}
	}
}

// P4.2: each byte at each place, in both kinds of texts.
func TestEachByte(t *testing.T) {
	for _, size := range []int{4, 16} {
		for at := range size {
			for x := range 256 {
				a := bytes.Repeat([]byte{0x1c}, size)
				a[at] = byte(x)
				s := modelPrint(a)
				if got, e := Print(a); got != s || e != api.Fine {
					t.Errorf("Print(%v) = %q, %d", a, got, e)
				}
				if got, e := Read(s); !bytes.Equal(got, a) || e != api.Fine {
					t.Errorf("Read(%q) = %v, %d", s, got, e)
				}
			}
		}
	}
}

// P4.2: Form of any other text.
func TestReadForm(t *testing.T) {
	for _, s := range []string{
		"", " ", ".", ":", "/", "...", "....", ":::::::", "::::::::", "0", "10", "10.0.0", "10.0.0.", ".10.0.0", "10..0.7", "10.0.0.7.", ".10.0.0.7", "10.0.0.7.0", "10.0.0.7.0.0", "10.0.0.0.7", "10.0.7", "10.0.0..7",
		"256.0.0.0", "0.256.0.0", "0.0.256.0", "0.0.0.256", "0.0.0.257", "0.0.0.300", "0.0.0.511", "0.0.0.512", "0.0.0.999", "0.0.0.1000", "0.0.0.4294967296", "0.0.0.18446744073709551615", "0.0.0.18446744073709551616", "0.0.0.99999999999999999999999",
		"010.0.0.7", "10.00.0.7", "10.0.0.07", "10.0.0.007", "00.0.0.0", "10.0.0.-7", "10.0.0.+7", "10.0.0. 7", " 10.0.0.7", "10.0.0.7 ", "10.0.0.7\n", "10.0.0.7\x00", "10.0.0.a", "a.0.0.0", "0x0a.0.0.7", "10.0.0.0x7", "1e1.0.0.7", "10,0,0,7", "10:0:0:7", "10.0.0:7", "10 0 0 7", "0a000007",
		"10.0.0.\u0667", "\uff11\uff10.0.0.7", "10\u3002000", "10.0.0.7/24", "10.0.0.7/", "/10.0.0.7",
		"0000:0000:0000:0000:0000:0000:0000", "0000:0000:0000:0000:0000:0000:0000:", ":0000:0000:0000:0000:0000:0000:0000", "0000:0000:0000:0000:0000:0000:0000:0000:", ":0000:0000:0000:0000:0000:0000:0000:0000", "0000:0000:0000:0000:0000:0000:0000:0000:0000", "0000::0000:0000:0000:0000:0000:0000",
		"0000:0000:0000:0000:0000:0000:0000:000", "000:0000:0000:0000:0000:0000:0000:0000", "0000:0000:0000:0000:0000:0000:0000:00000", "00000:000:0000:0000:0000:0000:0000:0000", "0000:0000:0000:0000:0000:0000:0000:00", "0000:0000:0000:0000:0000:0000:0000:000000", "0000:0000:0000:0000:0000:0000:0000:",
		"0000:0000:0000:0000:0000:0000:0000:000g", "0000:0000:0000:0000:0000:0000:0000:000A", "FFFF:FFFF:FFFF:FFFF:FFFF:FFFF:FFFF:FFFF", "ffff:ffff:ffff:ffff:ffff:ffff:ffff:fffF", "Ffff:ffff:ffff:ffff:ffff:ffff:ffff:ffff", "0000:0000:0000:0000:0000:0000:0000:00:0", "0000:0000:0000:0000:0000:0000:0000.0000",
		"0000.0000.0000.0000.0000.0000.0000.0000", "00000000000000000000000000000000", "000000000000000000000000000000000000000", "::", "::1", "0:0:0:0:0:0:0:0", "1:2:3:4:5:6:7:8", "fd00::1", "::ffff:10.0.0.7", "0000:0000:0000:0000:0000:0000:10.0.0.7", "0000:0000:0000:0000", "0000:0000:0000:0000:0000:0000:0000:0000/0", "[0000:0000:0000:0000:0000:0000:0000:0000]",
		"00:00:00:00:00:00:00:00:00:00:00:00:00:00:00:00", "0 0.0.0.0", "0000:0000:0000:0000:0000:0000:0000:0000%0", " 0000:0000:0000:0000:0000:0000:0000:0000", "0000:0000:0000:0000:0000:0000:0000:0000 ", "0000:0000:0000:0000:0000:0000:0000:00\u0660", "\xff\xff\xff\xff", "\x00\x00\x00\x00",
		strings.Repeat(".", 1<<18), strings.Repeat(":", 1<<18), strings.Repeat("0", 1<<18), strings.Repeat("1", 1<<18), strings.Repeat("0.", 1<<18) + "0", strings.Repeat("0000:", 1<<18) + "0000", "10.0.0.7" + strings.Repeat("7", 1<<18), "10.0.0." + strings.Repeat("0", 1<<18), "0000:0000:0000:0000:0000:0000:0000:" + strings.Repeat("0", 1<<18),
	} {
		readFails(t, s)
		readPrefixFails(t, s+"/0")
		if !strings.ContainsAny(s, "/") {
			readPrefixFails(t, s)
		}
	}
}

// signs are all bytes, and some signs of several bytes.
func signs() []string {
	l := []string{"\u0660", "\u0661", "\uff10", "\uff0e", "\uff1a", "00", "25", "..", "::", "//", "0.", ":0"}
	for x := range 256 {
		l = append(l, string([]byte{byte(x)}))
	}
	return l
}

// P4.2, P4.3: all texts that are one sign away from an address's.
func TestReadNearTexts(t *testing.T) {
	fine := 0
	for s := range texts() {
		for _, n := range near(s, signs()) {
			a, e := Read(n)
			want := modelRead(n)
			if !bytes.Equal(a, want) || (e == api.Fine) != (want != nil) || e != api.Fine && e != api.Form {
				t.Fatalf("Read(%q) = %v, %d, not %v", n, a, e, want)
			}
			if e != api.Fine {
				continue
			}
			fine++
			if again, e := Print(a); again != n || e != api.Fine {
				t.Fatalf("Print(Read(%q)) = %q, %d", n, again, e)
			}
		}
	}
	if fine < 1000 {
		t.Errorf("%d texts were read", fine)
	}
}

// P4.2: a prefix's text, and the plain prefix whose text it is.
func TestPrefixTexts(t *testing.T) {
	for s, p := range map[string]api.Prefix{
		"10.0.0.0/24": {Addr: []byte{10, 0, 0, 0}, Bits: 24}, "10.0.0.0/8": {Addr: []byte{10, 0, 0, 0}, Bits: 8}, "10.0.0.0/7": {Addr: []byte{10, 0, 0, 0}, Bits: 7}, "0.0.0.0/0": {Addr: make([]byte, 4)}, "10.0.0.7/32": {Addr: []byte{10, 0, 0, 7}, Bits: 32}, "128.0.0.0/1": {Addr: []byte{128, 0, 0, 0}, Bits: 1},
		"0000:0000:0000:0000:0000:0000:0000:0000/0": {Addr: make([]byte, 16)}, "fd00:0000:0000:0000:0000:0000:0000:0000/8": {Addr: append([]byte{0xfd}, make([]byte, 15)...), Bits: 8}, "0000:0000:0000:0000:0000:0000:0000:0001/128": {Addr: append(make([]byte, 15), 1), Bits: 128}, "0000:0000:0000:0000:0000:0000:0000:0000/100": {Addr: make([]byte, 16), Bits: 100},
	} {
		if got, e := PrintPrefix(p); got != s || e != api.Fine {
			t.Errorf("PrintPrefix(%v) = %q, %d", p, got, e)
		}
		if got, e := ReadPrefix(s); !samePrefix(got, p) || e != api.Fine {
			t.Errorf("ReadPrefix(%q) = %v, %d", s, got, e)
		}
	}
}

// P4.2: Form of what isn't right, and of what is right and not plain.
func TestPrintPrefix(t *testing.T) {
	l := append(lists(), addresses(rand.New(rand.NewSource(4)), 20)...)
	for _, a := range l {
		for _, p := range all(a) {
			s, e := PrintPrefix(p)
			if want := modelPrintPrefix(p); s != want || e != api.Fine && want != "" || e != api.Form && want == "" {
				t.Fatalf("PrintPrefix(%v) = %q, %d, not %q", p, s, e, want)
			}
		}
	}
}

// P4.2: a plain prefix's last bit of those that it has may be 1, the one behind it may not.
func TestNotPlain(t *testing.T) {
	for _, size := range []int{4, 16} {
		for at := range 8 * size {
			a := make([]byte, size)
			a[at/8] = 0x80 >> (at % 8)
			for bits := range 8*size + 1 {
				p := api.Prefix{Addr: a, Bits: bits}
				s := modelPrint(a) + "/" + strconv.Itoa(bits)
				got, e := PrintPrefix(p)
				q, code := ReadPrefix(s)
				if at < bits {
					if got != s || e != api.Fine || !samePrefix(q, p) || code != api.Fine {
						t.Errorf("%q: %q, %d; %v, %d", s, got, e, q, code)
					}
				} else if got != "" || e != api.Form || len(q.Addr) != 0 || q.Bits != 0 || code != api.Form {
					t.Errorf("%q isn't plain: %q, %d; %v, %d", s, got, e, q, code)
				}
			}
		}
	}
}

// P4.2: Form of any other text.
func TestReadPrefixForm(t *testing.T) {
	const none = "0000:0000:0000:0000:0000:0000:0000:0000"
	for _, s := range []string{
		"", "/", "//", "/0", "/24", "24", "10.0.0.0", "10.0.0.0/", "10.0.0.0//24", "10.0.0.0/24/", "/10.0.0.0/24", "10.0.0.0/24/24", "10.0.0.0/2/4", "10.0.0.0/ 24", "10.0.0.0 /24", "10.0.0.0/24 ", " 10.0.0.0/24", "10.0.0.0/24\n", "10.0.0.0/24\x00", "10.0.0.0\\24", "10.0.0.0:24", "10.0.0.0.24", "10.0.0.0/24.", "10.0.0.0/255.255.255.0",
		"10.0.0.0/33", "10.0.0.0/64", "10.0.0.0/128", "10.0.0.0/129", "10.0.0.0/256", "10.0.0.0/280", "10.0.0.0/320", "10.0.0.0/-1", "10.0.0.0/-24", "10.0.0.0/+24", "10.0.0.0/024", "10.0.0.0/0024", "10.0.0.0/00", "0.0.0.0/00", "0.0.0.0/-0", "10.0.0.0/0x18", "10.0.0.0/2a", "10.0.0.0/1e1", "10.0.0.0/2_4", "10.0.0.0/24.0", "10.0.0.0/\u0662\u0664",
		"10.0.0.0/4294967320", "10.0.0.0/18446744073709551615", "10.0.0.0/18446744073709551616", "10.0.0.0/18446744073709551640", "10.0.0.0/9223372036854775808", "0.0.0.0/18446744073709551616", "0.0.0.0/9223372036854775808", "0.0.0.0/4294967296", "0.0.0.0/256", "0.0.0.0/65536", "10.0.0.0/" + strings.Repeat("2", 1<<18), "0.0.0.0/" + strings.Repeat("0", 1<<18),
		"10.0.0.7/24", "10.0.0.7/31", "10.0.0.7/0", "10.0.0.0/6", "0.0.0.1/0", "128.0.0.0/0", "10.0.0/24", "10/8", "10.0.0.0.0/24", "010.0.0.0/8", "256.0.0.0/8", "10.0.0.0", "10.0.0.0/twenty",
		none, none + "/", none + "/129", none + "/256", none + "/1000", none + "/-1", none + "/00", none + "/064", none + "/128/", none + "//128", none + ":/128", none + "/80 ", none[:38] + "1/127", none[:38] + "1/0", "8" + none[1:] + "/0", none[:38] + "/8", none + "0/8", none[:35] + "/8", "FD00" + none[4:] + "/16", "::/0", none + "/18446744073709551616",
		strings.Repeat("/", 1<<18), none + "/" + strings.Repeat("1", 1<<18),
	} {
		readPrefixFails(t, s)
	}
}

// P4.2, P4.3: all texts that are one sign away from a prefix's.
func TestReadNearPrefixTexts(t *testing.T) {
	fine := 0
	for _, s := range []string{"10.0.0.0/24", "10.0.0.0/8", "0.0.0.0/0", "255.255.255.255/32", "192.168.0.0/16", "0000:0000:0000:0000:0000:0000:0000:0000/12", "ffff:ffff:ffff:ffff:ffff:ffff:ffff:ffff/128", "fd00:0012:0000:0000:0000:0000:0000:0000/63"} {
		for _, n := range near(s, signs()) {
			p, e := ReadPrefix(n)
			want := modelReadPrefix(n)
			if !samePrefix(p, want) || (e == api.Fine) != (want.Addr != nil) || e != api.Fine && e != api.Form {
				t.Fatalf("ReadPrefix(%q) = %v, %d, not %v", n, p, e, want)
			}
			if e != api.Fine {
				continue
			}
			fine++
			if again, e := PrintPrefix(p); again != n || e != api.Fine {
				t.Fatalf("PrintPrefix(ReadPrefix(%q)) = %q, %d", n, again, e)
			}
		}
	}
	if fine < 300 {
		t.Errorf("%d texts were read", fine)
	}
}

// P4.3: what is printed is read.
func TestPrintedIsRead(t *testing.T) {
	for _, a := range addresses(rand.New(rand.NewSource(5)), 300) {
		s, e := Print(a)
		if got, code := Read(s); !bytes.Equal(got, a) || e != api.Fine || code != api.Fine {
			t.Errorf("Read(Print(%v)) = %v, %d, %d", a, got, e, code)
		}
		for bits := range 8*len(a) + 1 {
			p, _ := Plain(api.Prefix{Addr: a, Bits: bits})
			s, e := PrintPrefix(p)
			if got, code := ReadPrefix(s); !samePrefix(got, p) || e != api.Fine || code != api.Fine {
				t.Errorf("ReadPrefix(PrintPrefix(%v)) = %v, %d, %d", p, got, e, code)
			}
		}
	}
}

// R4: what is handed in stays as it is, and what is told is the caller's.
func TestTextsAreNotShared(t *testing.T) {
	for s, a := range texts() {
		room := append(bytes.Clone(a), 1, 2, 3)
		Print(room[:len(a)])
		PrintPrefix(api.Prefix{Addr: room[:len(a)], Bits: 8 * len(a)})
		if !bytes.Equal(room, append(bytes.Clone(a), 1, 2, 3)) {
			t.Errorf("handed in: %v, not %v", room, a)
		}
		first, _ := Read(s)
		p, _ := ReadPrefix(s + "/" + strconv.Itoa(8*len(a)))
		for i := range a {
			first[i]++
			p.Addr[i]--
		}
		if again, e := Read(s); !bytes.Equal(again, a) || e != api.Fine {
			t.Errorf("Read(%q), the second time: %v, %d", s, again, e)
		}
		if again, e := ReadPrefix(s + "/" + strconv.Itoa(8*len(a))); !bytes.Equal(again.Addr, a) || e != api.Fine {
			t.Errorf("ReadPrefix of %q, the second time: %v, %d", s, again, e)
		}
	}
}
