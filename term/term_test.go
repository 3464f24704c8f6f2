package term

import (
	"bytes"
	"math/rand"
	"slices"
	"strings"
	"testing"

	"snicket/api"
)

// sample is a term, and what it is.
type sample struct {
	t     string
	kind  int
	n     uint64
	has   bool // an N
	b     []byte
	parts []string
}

// pub nests that many Pubs about 0: 3 bytes each, and one.
func pub(levels int) string {
	return strings.Repeat("p(", levels) + "0" + strings.Repeat(")", levels)
}

// samples are terms of all kinds, at all ends.
func samples() []sample {
	zeros := func(n int) []string { return slices.Repeat([]string{"0"}, n) }
	deep := "l(p(d(a1,a2)),h(0,s(5,k(3,0,n1),x00,l())),m(x,x))"
	return []sample{
		{t: "0", kind: Zero},
		{t: "a0", kind: Atom, has: true}, {t: "a1", kind: Atom, n: 1, has: true},
		{t: "a4294967295", kind: Atom, n: 1<<32 - 1, has: true},
		{t: "n0", kind: Number, has: true}, {t: "n10", kind: Number, n: 10, has: true},
		{t: "n4294967296", kind: Number, n: 1 << 32, has: true},
		{t: "n18446744073709551615", kind: Number, n: 1<<64 - 1, has: true},
		{t: "x", kind: Data}, {t: "x00", kind: Data, b: []byte{0}}, {t: "x0aff", kind: Data, b: []byte{10, 255}},
		{t: "x736e69636b6574", kind: Data, b: []byte("snicket")},
		{t: "p(0)", kind: Pub, parts: []string{"0"}}, {t: "p(a1)", kind: Pub, parts: []string{"a1"}},
		{t: "p(p(l()))", kind: Pub, parts: []string{"p(l())"}},
		{t: "d(a0,a1)", kind: Dh, parts: []string{"a0", "a1"}}, {t: "d(a1,a1)", kind: Dh, parts: []string{"a1", "a1"}},
		{t: "d(a10,a9)", kind: Dh, parts: []string{"a10", "a9"}}, {t: "d(0,a0)", kind: Dh, parts: []string{"0", "a0"}},
		{t: "d(a1,a10)", kind: Dh, parts: []string{"a1", "a10"}}, {t: "d(x,x00)", kind: Dh, parts: []string{"x", "x00"}},
		{t: "h(0)", kind: Hash, parts: zeros(1)}, {t: "h(a2,a1)", kind: Hash, parts: []string{"a2", "a1"}},
		{t: "h(0,0,0,0,0)", kind: Hash, parts: zeros(5)},
		{t: "k(1,0,a1)", kind: Kdf, n: 1, has: true, parts: []string{"0", "a1"}},
		{t: "k(2,a2,a1)", kind: Kdf, n: 2, has: true, parts: []string{"a2", "a1"}},
		{t: "k(3,n3,n3)", kind: Kdf, n: 3, has: true, parts: []string{"n3", "n3"}},
		{t: "m(a2,a1)", kind: Mac, parts: []string{"a2", "a1"}},
		{t: "s(0,a3,a2,a1)", kind: Seal, has: true, parts: []string{"a3", "a2", "a1"}},
		{t: "s(7,a1,x00,0)", kind: Seal, n: 7, has: true, parts: []string{"a1", "x00", "0"}},
		{t: "s(18446744073709551615,0,0,0)", kind: Seal, n: 1<<64 - 1, has: true, parts: zeros(3)},
		{t: "l()", kind: List}, {t: "l(0)", kind: List, parts: zeros(1)}, {t: "l(l())", kind: List, parts: []string{"l()"}},
		{t: "l(l(),l())", kind: List, parts: []string{"l()", "l()"}},
		{t: "l(a2,a1,0,x,n7)", kind: List, parts: []string{"a2", "a1", "0", "x", "n7"}},
		{t: deep, kind: List, parts: []string{"p(d(a1,a2))", "h(0,s(5,k(3,0,n1),x00,l()))", "m(x,x)"}},
		{t: "x" + strings.Repeat("00", 32767), kind: Data, b: make([]byte, 32767)},
		{t: pub(21845), kind: Pub, parts: []string{pub(21844)}},
		{t: "l(x" + strings.Repeat("ff", 32766) + ")", kind: List, parts: []string{"x" + strings.Repeat("ff", 32766)}},
		{t: "l(" + strings.Repeat("0,", 32765) + "n10)", kind: List, parts: append(zeros(32765), "n10")},
		{t: "h(" + strings.Repeat("0,", 32766) + "0)", kind: Hash, parts: zeros(32767)},
	}
}

// noTerms are texts that are none, by what is wrong with them.
func noTerms() []string {
	l := []string{
		"", " ", "\x00", "z", "A1", "b1", "1", "00", "0 ", " 0", "0\x00", "0\n", "0,0", "0)", "(0)", "()", "(", ")", ",", "\u0663", "\xff",
		"a", "n", "a-1", "a+1", "a 1", "a1 ", "a1a1", "a1.0", "a0x1", "a1,", "a(1)", "n(1)", "a\u0663", "a1\u0663", "n1e3", "n1_0",
		"a4294967296", "a4294967300", "a18446744073709551615", "a18446744073709551616", "a99999999999",
		"n18446744073709551616", "n18446744073709551620", "n36893488147419103232", "n99999999999999999999999",
		"a00", "a01", "a007", "n00", "n01", "n018446744073709551615", "k(01,0,0)", "k(001,0,0)", "s(00,0,0,0)", "s(07,0,0,0)", "l(a01)", "p(n00)",
		"x0", "x000", "xg", "x0g", "xg0", "x0A", "xFF", "x0x0", "x 00", "x00 ", "x0,0", "x(00)", "x\u0663", "X00", "x00\x00",
		"p", "p(", "p()", "p)", "p(0", "p0", "p0)", "p(0,0)", "p(,)", "p(0,)", "p(,0)", "p(0))", "p((0))", "p(0)0", "p(0)(0)", "p (0)", "p( 0)", "p(0 )", "P(0)", "p[0]",
		"d()", "d(0)", "d(0,0,0)", "d(a1,a0)", "d(a9,a10)", "d(a10,a1)", "d(a0,0)", "d(x00,x)", "d(n0,a0)", "d(p(0),l())", "d(0,0", "d(0,", "d(,0)", "d(0,,0)", "d(0;0)",
		"h()", "h(", "h(0", "h(0,)", "h(,0)", "h(0,0", "h(0 0)", "h(0,b)", "h", "h(00)",
		"k()", "k(1)", "k(1,)", "k(1,0)", "k(1,0,)", "k(1,0,0,0)", "k(0,0,0)", "k(4,0,0)", "k(10,0,0)", "k(18446744073709551617,0,0)", "k(0)", "k(,0,0)", "k(a1,0,0)", "k(n1,0,0)", "k(-1,0,0)", "k1,0,0", "k1(0,0)", "k(1 0,0)", "k(1(0,0))", "k(3,0,0",
		"m()", "m(0)", "m(0,0,0)", "m(0,0", "m(0,", "m(1,0,0)", "m",
		"s()", "s(0)", "s(0,0)", "s(0,0,0)", "s(0,0,0,0,0)", "s(18446744073709551616,0,0,0)", "s(,0,0,0)", "s(a0,0,0,0)", "s(0,0,0,0", "s0(0,0,0)", "s(x,0,0,0)", "s(-1,0,0,0)",
		"l", "l(", "l(,)", "l(0,)", "l(,0)", "l()0", "l())", "l(()", "l(l()", "l(l)", "l(0,,0)", "l(0)l(0)", "l( )", "l(0, 0)", "l[]", "L()",
		"l(p(d(a2,a1)))", "h(0,s(5,k(4,0,n1),x00,l()))", "l(0,0,0,a4294967296)", "p(p(p(p(q))))",
		"x" + strings.Repeat("00", 32767) + "0", "x" + strings.Repeat("00", 32768), "p(x" + strings.Repeat("00", 32767) + ")",
		pub(21846), pub(40000), strings.Repeat("p(", 32768), strings.Repeat("l(", 32768), strings.Repeat("(", 65536), strings.Repeat("d(0,", 16384),
		pub(21845) + ")", pub(21845)[:65535], strings.Repeat("0", 65536), strings.Repeat("0", 1<<20), "n" + strings.Repeat("9", 65535), "a" + strings.Repeat("0", 65535),
		"l(" + strings.Repeat("0,", 32765) + "n100)", "l(" + strings.Repeat("0,", 32767) + "0)", "h(" + strings.Repeat("0,", 32766) + "a0)", strings.Repeat("l(),", 16384),
	}
	for b := range 256 {
		sign := string([]byte{byte(b)})
		l = append(l, sign+"(", "0"+sign)
		if sign != "0" && sign != "x" { // which are terms by themselves
			l = append(l, sign, "l("+sign+",0)")
		}
	}
	return l
}

// short tells as much of a text, or of parts, as can be looked at.
func short(l ...string) string {
	t := strings.Join(l, " ")
	if len(t) > 60 {
		return t[:60] + ".."
	}
	return t
}

// P2.1: what a term is.
func TestTerms(t *testing.T) {
	for _, s := range samples() {
		if len(s.t) > api.MaxTerm {
			t.Fatalf("%q is too long a sample", short(s.t))
		}
		if got := Kind(s.t); got != s.kind {
			t.Errorf("Kind(%q) = %d, not %d", short(s.t), got, s.kind)
		}
		if got := Parts(s.t); !slices.Equal(got, s.parts) {
			t.Errorf("Parts(%q) = %d: %q", short(s.t), len(got), short(got...))
		}
		if n, ok := Value(s.t); n != s.n || ok != s.has {
			t.Errorf("Value(%q) = %d, %t", short(s.t), n, ok)
		}
		if b, ok := Bytes(s.t); !bytes.Equal(b, s.b) || ok != (s.kind == Data) {
			t.Errorf("Bytes(%q) = %.20v, %t", short(s.t), b, ok)
		}
	}
}

// P2.1: the samples' lengths reach MaxTerm itself.
func TestSamplesReachTheEnd(t *testing.T) {
	longest := 0
	for _, s := range samples() {
		longest = max(longest, len(s.t))
	}
	if longest != 65536 || api.MaxTerm != 65536 {
		t.Error(longest)
	}
}

// P2.1: what is no term has no kind, no parts, no N and no bytes.
func TestNoTerms(t *testing.T) {
	for _, s := range noTerms() {
		if got := Kind(s); got != 0 {
			t.Errorf("Kind(%q) = %d", short(s), got)
		}
		if got := Parts(s); len(got) != 0 {
			t.Errorf("Parts(%q) = %d: %q", short(s), len(got), short(got...))
		}
		if n, ok := Value(s); n != 0 || ok {
			t.Errorf("Value(%q) = %d, %t", short(s), n, ok)
		}
		if b, ok := Bytes(s); len(b) != 0 || ok {
			t.Errorf("Bytes(%q) = %.20v, %t", short(s), b, ok)
		}
	}
}

// P2.1: of all texts of up to 4 of some signs, and of 5 behind the sign of a kind with parts, just those are terms that the tests' own reader takes.
func TestAllShortTexts(t *testing.T) {
	const signs = "0123anxpdhkmsl(),"
	texts, terms := []string{""}, 0
	for i := 0; i < len(texts); i++ {
		s := texts[i]
		want := kindOf(s)
		if got := Kind(s); got != want {
			t.Fatalf("Kind(%q) = %d, not %d", s, got, want)
		}
		if want != 0 {
			terms++
		}
		if len(s) < 4 || len(s) == 4 && strings.ContainsAny(s[:1], "pdhkmsl") {
			for _, r := range signs {
				texts = append(texts, s+string(r))
			}
		}
	}
	if terms < 100 {
		t.Errorf("only %d terms", terms)
	}
}

// P2.1: likewise of all rows of up to 6 pieces.
func TestAllShortRows(t *testing.T) {
	pieces := []string{"0", "a1", "l(", "d(", "k(1,", ")", ","}
	rows := []string{""}
	for range 6 {
		var more []string
		for _, s := range rows {
			for _, p := range pieces {
				more = append(more, s+p)
				if got, want := Kind(s+p), kindOf(s+p); got != want {
					t.Fatalf("Kind(%q) = %d, not %d", s+p, got, want)
				}
			}
		}
		rows = more
	}
}

// P2.1: terms in which one sign was changed, put in or left out.
func TestSpoiledTerms(t *testing.T) {
	r := rand.New(rand.NewSource(2))
	const signs = "0129afnxpdhkmsl(), \x00"
	for range 20000 {
		s := grow(r, 1+r.Intn(4)).text()
		if len(s) > 2000 {
			continue
		}
		i := r.Intn(len(s))
		sign := string(signs[r.Intn(len(signs))])
		for _, spoiled := range []string{s, s[:i] + s[i+1:], s[:i] + sign + s[i:], s[:i] + sign + s[i+1:], s[:i], s[i:]} {
			if got, want := Kind(spoiled), kindOf(spoiled); got != want {
				t.Fatalf("Kind(%q) = %d, not %d", spoiled, got, want)
			}
		}
	}
}

// P2.2: each kind is made of what it has; what it hasn't plays no part.
func TestMake(t *testing.T) {
	for _, s := range samples() {
		if got := Make(s.kind, s.n, s.b, s.parts...); got != s.t {
			t.Errorf("Make(%d, ..) = %q, not %q", s.kind, short(got), short(s.t))
		}
		n, b := s.n, s.b
		if !s.has {
			n = 1<<64 - 1
		}
		if s.kind != Data {
			b = make([]byte, 70000)
		}
		if got := Make(s.kind, n, b, s.parts...); got != s.t {
			t.Errorf("Make(%d, ..) = %q, not %q", s.kind, short(got), short(s.t))
		}
	}
}

// P2.2: both parts of a Dh are put in order, and what was handed in stays as it was.
func TestMakeDh(t *testing.T) {
	for _, c := range [][3]string{
		{"a1", "a0", "d(a0,a1)"}, {"a0", "a1", "d(a0,a1)"}, {"a9", "a10", "d(a10,a9)"}, {"a10", "a9", "d(a10,a9)"},
		{"x00", "x", "d(x,x00)"}, {"a1", "a1", "d(a1,a1)"}, {"p(0)", "0", "d(0,p(0))"}, {"l()", "d(0,0)", "d(d(0,0),l())"},
	} {
		l := []string{c[0], c[1]}
		if got := Make(Dh, 0, nil, l...); got != c[2] || l[0] != c[0] || l[1] != c[1] {
			t.Errorf("Make(Dh, %v) = %q, and they are %v", c[:2], got, l)
		}
	}
	for _, kind := range []int{Hash, Mac, List} {
		if got := Make(kind, 0, nil, "a1", "a0"); got[1:] != "(a1,a0)" {
			t.Errorf("Make(%d, a1, a0) = %q", kind, got)
		}
	}
}

func refused(t *testing.T, kind int, n uint64, b []byte, l ...string) {
	t.Helper()
	if got := Make(kind, n, b, l...); got != "" {
		t.Errorf("Make(%d, %d, %d bytes, %d parts: %q) = %q", kind, n, len(b), len(l), short(l...), short(got))
	}
}

// P2.2: there are no other kinds.
func TestMakeOfNoKind(t *testing.T) {
	for _, kind := range []int{0, -1, 12, 13, 48, 97, 255, 256, 1 << 32, -1 << 63, 1<<63 - 1} {
		refused(t, kind, 0, nil)
		refused(t, kind, 1, nil, "0")
		refused(t, kind, 1, []byte{1}, "0", "0")
	}
}

// P2.2: an N at its end and past it.
func TestMakeOfNoSuchNumber(t *testing.T) {
	for _, n := range []uint64{1 << 32, 1<<32 + 1, 1 << 33, 1<<63 + 5, 1<<64 - 1} {
		refused(t, Atom, n, nil)
		refused(t, Kdf, n, nil, "0", "0")
	}
	for _, n := range []uint64{0, 4, 5, 10, 1<<32 + 1} {
		refused(t, Kdf, n, nil, "0", "0")
	}
}

// P2.2: parts too few and too many, also of kinds without parts.
func TestMakeOfTooFewAndTooMany(t *testing.T) {
	for kind := Zero; kind <= List; kind++ {
		least, most := arity(kind)
		for count := range 9 {
			l := slices.Repeat([]string{"0"}, count)
			if count < least || count > most && kind != Hash && kind != List {
				refused(t, kind, 1, []byte{1}, l...)
				continue
			}
			got := Make(kind, 1, []byte{1}, l...)
			if Kind(got) != kind || !slices.Equal(Parts(got), l) {
				t.Errorf("Make(%d, 1, .., %v) = %q", kind, l, got)
			}
		}
	}
}

// P2.2: each part must be a term by itself, even where the text as a whole would be one.
func TestMakeOfNoTerms(t *testing.T) {
	for _, bad := range []string{"", "b", "a", "a01", "0,0", "0)", "(0", "0),l(0", "h()", "d(a1,a0)", "k(4,0,0)", " 0", "0 ", "00", "x0", "\u0663", pub(21846)} {
		for kind := Zero; kind <= List; kind++ {
			least, most := arity(kind)
			for count := 1; count <= max(most, 1); count++ {
				for at := range count {
					l := slices.Repeat([]string{"0"}, count)
					l[at] = bad
					refused(t, kind, 1, nil, l...)
				}
			}
			if least == 2 {
				refused(t, kind, 1, nil, bad)
			}
		}
	}
	refused(t, List, 0, nil, "h(0", "0)")
	refused(t, List, 0, nil, "0,0")
	refused(t, Mac, 0, nil, "0,0")
	refused(t, Dh, 0, nil, "0,0")
	refused(t, Dh, 0, nil, "p(0", "0)")
	refused(t, Seal, 0, nil, "0,0", "0")
	refused(t, Kdf, 1, nil, "0,0")
	refused(t, Pub, 0, nil, "0),p(0")
	refused(t, List, 0, nil, "")
	refused(t, Zero, 0, nil, "")
	refused(t, Atom, 1, nil, "")
	refused(t, Number, 1, nil, "")
	refused(t, Data, 0, []byte{1}, "")
}

// fill tells a term of just so many bytes, 1 or more, but 2.
func fill(size int) string {
	if size%2 == 1 {
		return "x" + strings.Repeat("00", size/2)
	}
	return "l(" + fill(size-3) + ")"
}

// P2.2: a text of MaxTerm bytes, and a longer one.
func TestMakeTooLong(t *testing.T) {
	for _, c := range []struct {
		kind int
		n    uint64
		l    []string // the last one of which grows
	}{
		{Pub, 0, []string{"0"}}, {Dh, 0, []string{"0", "0"}}, {Dh, 0, []string{"a7", "0"}}, {Hash, 0, []string{"0"}}, {Hash, 0, []string{"0", "l()", "0"}},
		{Kdf, 1, []string{"a1", "0"}}, {Kdf, 3, []string{"a12", "0"}}, {Mac, 0, []string{"n5", "0"}}, {Mac, 0, []string{"a10", "0"}},
		{Seal, 0, []string{"a1", "x", "0"}}, {Seal, 1<<64 - 1, []string{"a1", "x", "0"}}, {List, 0, []string{"0"}}, {List, 0, []string{"0", "0", "0", "0"}},
		{List, 0, slices.Repeat([]string{"0"}, 32000)}, {Hash, 0, slices.Repeat([]string{"0"}, 32000)},
	} {
		last := len(c.l) - 1
		room := 65536 - (len(Make(c.kind, c.n, nil, c.l...)) - 1)
		c.l[last] = fill(room)
		if got := Make(c.kind, c.n, nil, c.l...); len(got) != 65536 || Kind(got) != c.kind {
			t.Errorf("Make(%d, %d, .., %q) has %d bytes", c.kind, c.n, short(c.l...), len(got))
		}
		for more := 1; more < 8; more++ {
			c.l[last] = fill(room + more)
			refused(t, c.kind, c.n, nil, c.l...)
		}
	}
}

// P2.2: much too long, by bytes, by one part, by how many parts there are.
func TestMakeMuchTooLong(t *testing.T) {
	if got := Make(Data, 0, make([]byte, 32767)); len(got) != 65535 {
		t.Errorf("of 32767 bytes: %d", len(got))
	}
	for _, n := range []int{32768, 32769, 65536, 1 << 20} {
		refused(t, Data, 0, make([]byte, n))
	}
	refused(t, Pub, 0, nil, pub(21845))
	refused(t, Mac, 0, nil, pub(21845), pub(21845))
	refused(t, Hash, 0, nil, slices.Repeat([]string{pub(21845)}, 5000)...)
	for _, n := range []int{32768, 65535, 65536, 65537, 1 << 20} {
		refused(t, List, 0, nil, slices.Repeat([]string{"0"}, n)...)
		refused(t, Hash, 0, nil, slices.Repeat([]string{"0"}, n)...)
		refused(t, List, 0, nil, slices.Repeat([]string{""}, n)...)
	}
}

// P2.3: Agree makes the Dh of x and of the secret of p.
func TestAgree(t *testing.T) {
	half := "x" + strings.Repeat("00", 16382) // 32765 bytes
	for _, c := range [][3]string{
		{"a1", "p(a0)", "d(a0,a1)"}, {"a0", "p(a1)", "d(a0,a1)"}, {"a9", "p(a10)", "d(a10,a9)"}, {"a1", "p(a1)", "d(a1,a1)"},
		{"0", "p(l(0,0))", "d(0,l(0,0))"}, {"p(a1)", "p(p(a0))", "d(p(a0),p(a1))"}, {"l()", "p(l())", "d(l(),l())"},
		{half, "p(" + half + ")", "d(" + half + "," + half + ")"},
		{"", "p(a0)", ""}, {"a", "p(a0)", ""}, {"0,0", "p(a0)", ""}, {"a01", "p(a0)", ""},
		{"a1", "", ""}, {"a1", "a0", ""}, {"a1", "p", ""}, {"a1", "p()", ""}, {"a1", "p(a0", ""}, {"a1", "p(a00)", ""}, {"a1", "p(a0,a0)", ""},
		{"a1", "d(a0,a1)", ""}, {"a1", "h(a0)", ""}, {"a1", "l(p(a0))", ""}, {"a1", "l(a0)", ""}, {"a1", "0", ""}, {"a1", "s(0,p(a0),0,0)", ""},
		{"a100000", pub(21844), ""}, {pub(21845), "p(0)", ""}, {half + "00", "p(" + half + ")", "d(" + half + "," + half + "00)"},
		{half + "00", "p(" + half + "00)", ""}, {half, "p(" + half + "0000)", ""},
	} {
		if got := Agree(c[0], c[1]); got != c[2] {
			t.Errorf("Agree(%q, %q) = %q, not %q", short(c[0]), short(c[1]), short(got), short(c[2]))
		}
	}
}

// P2.3: Open tells what is sealed.
func TestOpen(t *testing.T) {
	const most = 1<<64 - 1
	for _, c := range []struct {
		t, key string
		n      uint64
		v, u   string
		e      api.Code
	}{
		{"s(7,a1,x00,0)", "a1", 7, "0", "x00", api.Fine}, {"s(0,0,0,0)", "0", 0, "0", "0", api.Fine},
		{"s(18446744073709551615,k(1,a1,a2),l(a3,a4),h(a5))", "k(1,a1,a2)", most, "h(a5)", "l(a3,a4)", api.Fine},
		{"s(7,a1,s(8,a2,a3,a4),0)", "a1", 7, "0", "s(8,a2,a3,a4)", api.Fine},
		{"s(7,a1,x00,0)", "a2", 7, "0", "", api.Key}, {"s(7,a1,x00,0)", "a1", 8, "0", "", api.Key}, {"s(7,a1,x00,0)", "a1", 7, "n0", "", api.Key},
		{"s(7,a1,x00,0)", "", 7, "0", "", api.Key}, {"s(7,a1,x00,0)", "a1", 7, "", "", api.Key}, {"s(7,a1,x00,0)", "a1,x00", 7, "0", "", api.Key},
		{"s(7,a1,x00,0)", "0", 7, "a1", "", api.Key}, {"s(7,a1,x00,0)", "a1", 0, "0", "", api.Key}, {"s(7,a1,x00,0)", "a01", 7, "0", "", api.Key},
		{"s(0,a1,x00,0)", "a1", 1 << 63, "0", "", api.Key}, {"s(7,a1,a2,a3)", "a1", 7, "a2", "", api.Key}, {"s(7,a1,a2,a3)", "a2", 7, "a3", "", api.Key},
		{"s(7,a1,x00)", "a1", 7, "0", "", api.Form}, {"s(7,a1,x00,0", "a1", 7, "0", "", api.Form}, {"s(07,a1,x00,0)", "a1", 7, "0", "", api.Form},
		{"", "a1", 7, "0", "", api.Form}, {"x00", "a1", 7, "0", "", api.Form}, {"0", "", 0, "", "", api.Form}, {"k(1,a1,0)", "a1", 1, "0", "", api.Form},
		{"m(a1,x00)", "a1", 0, "", "", api.Form}, {"l(a1,x00,0)", "a1", 0, "0", "", api.Form}, {"h(a1,x00,0)", "a1", 0, "0", "", api.Form},
		{"l(s(7,a1,x00,0))", "a1", 7, "0", "", api.Form}, {"s(18446744073709551616,a1,x00,0)", "a1", 0, "0", "", api.Form}, {"nonsense", "", most, "\xff", "", api.Form},
	} {
		if u, e := Open(c.t, c.key, c.n, c.v); u != c.u || e != c.e {
			t.Errorf("Open(%q, %q, %d, %q) = %q, %d, not %q, %d", c.t, c.key, c.n, c.v, u, e, c.u, c.e)
		}
	}
}

// P2.3: Signed tells whether t is u, signed by the key.
func TestSigned(t *testing.T) {
	for _, c := range []struct {
		t, key, u string
		want      bool
	}{
		{"m(a1,a2)", "a1", "a2", true}, {"m(a2,a1)", "a2", "a1", true}, {"m(a1,a1)", "a1", "a1", true}, {"m(h(0),l(0,0))", "h(0)", "l(0,0)", true},
		{"m(a1,a2)", "a2", "a1", false}, {"m(a1,a2)", "a1", "a1", false}, {"m(a1,a2)", "a2", "a2", false}, {"m(a1,a2)", "a1", "", false}, {"m(a1,a2)", "", "a2", false},
		{"", "", "", false}, {"m(,)", "", "", false}, {"m()", "", "", false}, {"m(a1)", "a1", "", false}, {"m(a1,a2,a3)", "a1", "a2,a3", false},
		{"m(a01,a2)", "a01", "a2", false}, {"m(a1,a2", "a1", "a2", false}, {"m(b,b)", "b", "b", false}, {"m(0,0,0)", "0,0", "0", false},
		{"m(h(0,0),0)", "h(0", "0),0", false}, {"h(a1,a2)", "a1", "a2", false}, {"d(a1,a2)", "a1", "a2", false}, {"l(a1,a2)", "a1", "a2", false}, {"k(1,a1,a2)", "a1", "a2", false},
		{"s(0,a1,a2,0)", "a1", "a2", false}, {"0", "", "", false}, {"l(m(a1,a2))", "a1", "a2", false}, {" m(a1,a2)", "a1", "a2", false},
		{"m(0," + pub(21843) + ")", "0", pub(21843), true}, {"m(0," + pub(21844) + ")", "0", pub(21844), false},
	} {
		if got := Signed(c.t, c.key, c.u); got != c.want {
			t.Errorf("Signed(%q, %q, %q) = %t", short(c.t), c.key, short(c.u), got)
		}
	}
}

// P2.4: what is made of parts has these parts, that N and these bytes, and is told as the tests write it.
func TestMadeHasItsParts(t *testing.T) {
	r := rand.New(rand.NewSource(1))
	kinds := map[int]int{}
	for range 5000 {
		d := grow(r, r.Intn(5))
		l := d.texts()
		made := Make(d.kind, d.n, d.b, l...)
		if made != d.text() || Kind(made) != d.kind || !slices.Equal(Parts(made), l) {
			t.Fatalf("Make(%d, %d, %v, %q) = %q", d.kind, d.n, d.b, l, made)
		}
		if n, ok := Value(made); ok && n != d.n {
			t.Fatalf("Value(%q) = %d", made, n)
		}
		if b, ok := Bytes(made); ok && !bytes.Equal(b, d.b) {
			t.Fatalf("Bytes(%q) = %v", made, b)
		}
		n, _ := Value(made)
		b, _ := Bytes(made)
		if again := Make(Kind(made), n, b, Parts(made)...); again != made {
			t.Fatalf("%q again: %q", made, again)
		}
		kinds[d.kind]++
	}
	if len(kinds) != 11 {
		t.Errorf("kinds: %v", kinds)
	}
}

// P2.4: two who agree by each other's Pub have the same; and what is sealed opens, what is signed is signed.
func TestTwoAgree(t *testing.T) {
	r := rand.New(rand.NewSource(3))
	for range 3000 {
		x, y, v, n := grow(r, r.Intn(4)).text(), grow(r, r.Intn(4)).text(), grow(r, 1).text(), r.Uint64()
		one, other := Agree(x, Make(Pub, 0, nil, y)), Agree(y, Make(Pub, 0, nil, x))
		if one != other || Kind(one) != Dh || one != Make(Dh, 0, nil, x, y) {
			t.Fatalf("%q and %q: %q, %q", x, y, one, other)
		}
		if u, e := Open(Make(Seal, n, nil, x, y, v), x, n, v); u != y || e != api.Fine {
			t.Fatalf("sealed %q, opened %q, %d", y, u, e)
		}
		if !Signed(Make(Mac, 0, nil, x, y), x, y) || x != y && Signed(Make(Mac, 0, nil, x, y), y, x) {
			t.Fatalf("signed %q by %q", y, x)
		}
	}
}

// R4: what is handed in stays as it is, and what is told is the caller's.
func TestNothingIsShared(t *testing.T) {
	b := []byte{1, 2}
	made := Make(Data, 0, b)
	if !bytes.Equal(b, []byte{1, 2}) {
		t.Errorf("the bytes are %v", b)
	}
	b[0] = 9
	told, _ := Bytes(made)
	told[0] = 7
	if again, _ := Bytes(made); made != "x0102" || !bytes.Equal(again, []byte{1, 2}) {
		t.Errorf("%q is %v", made, again)
	}
	parts := Parts("l(a1,a2)")
	_ = append(parts[:1], "a3")
	parts[0] = "0"
	if again := Parts("l(a1,a2)"); !slices.Equal(again, []string{"a1", "a2"}) {
		t.Errorf("the second time: %v", again)
	}
}
