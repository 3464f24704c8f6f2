package wire

import (
	"bytes"
	"math/rand"
	"slices"
	"strings"
	"testing"

	"snicket/api"
	"snicket/term"
)

// sample is a message, with its bytes, terms, Body and Signed written out.
type sample struct {
	what         string
	m            api.Message
	b            string
	terms        []string
	body, signed string
}

// samples are one message of each kind, and the chapter's example.
func samples() []sample {
	return []sample{
		{
			"an Init", api.Message{Kind: api.Init, Sender: 0x04030201, Eph: "p(a1)", Static: "s(0,a1,a2,0)", Stamp: "a3", Mac1: "m(a4,0)", Mac2: "0"},
			"\x01\x00\x00\x00" + "\x01\x02\x03\x04" + "\x05\x00p(a1)" + "\x0c\x00s(0,a1,a2,0)" + "\x02\x00a3" + "\x07\x00m(a4,0)" + "\x01\x000",
			[]string{"p(a1)", "s(0,a1,a2,0)", "a3", "m(a4,0)", "0"},
			"l(n1,n67305985,n0,p(a1),s(0,a1,a2,0),a3)", "l(l(n1,n67305985,n0,p(a1),s(0,a1,a2,0),a3),m(a4,0))",
		}, {
			"a Response", api.Message{Kind: api.Response, Sender: 5, Receiver: 0xfffefdfc, Eph: "p(a2)", Empty: "x00", Mac1: "a5", Mac2: "m(a6,x)"},
			"\x02\x00\x00\x00" + "\x05\x00\x00\x00" + "\xfc\xfd\xfe\xff" + "\x05\x00p(a2)" + "\x03\x00x00" + "\x02\x00a5" + "\x07\x00m(a6,x)",
			[]string{"p(a2)", "x00", "a5", "m(a6,x)"},
			"l(n2,n5,n4294901244,p(a2),x00)", "l(l(n2,n5,n4294901244,p(a2),x00),a5)",
		}, {
			"a CookieMsg", api.Message{Kind: api.CookieMsg, Receiver: 256, Nonce: "n7", Cookie: "s(7,a1,a2,a3)"},
			"\x03\x00\x00\x00" + "\x00\x01\x00\x00" + "\x02\x00n7" + "\x0d\x00s(7,a1,a2,a3)",
			[]string{"n7", "s(7,a1,a2,a3)"}, "", "",
		}, {
			"a Transport", api.Message{Kind: api.Transport, Receiver: 0x80000001, Counter: 0x8877665544332211, Data: "s(1,a1,x0aff,0)"},
			"\x04\x00\x00\x00" + "\x01\x00\x00\x80" + "\x11\x22\x33\x44\x55\x66\x77\x88" + "\x0f\x00s(1,a1,x0aff,0)",
			[]string{"s(1,a1,x0aff,0)"}, "", "",
		}, {
			"the example", api.Message{Kind: api.Transport, Receiver: 7, Counter: 1, Data: "0"},
			"\x04\x00\x00\x00" + "\x07\x00\x00\x00" + "\x01\x00\x00\x00\x00\x00\x00\x00" + "\x01\x000",
			[]string{"0"}, "", "",
		}, {
			"numbers 0", api.Message{Kind: api.Init, Eph: "0", Static: "0", Stamp: "0", Mac1: "0", Mac2: "0"},
			"\x01\x00\x00\x00" + "\x00\x00\x00\x00" + strings.Repeat("\x01\x000", 5),
			[]string{"0", "0", "0", "0", "0"}, "l(n1,n0,n0,0,0,0)", "l(l(n1,n0,n0,0,0,0),0)",
		},
	}
}

// short tells as much of a text as can be looked at.
func short(t string) string {
	if len(t) > 80 {
		return t[:80] + ".."
	}
	return t
}

// prints holds Print, Terms, Body and Signed of m against what is written out.
func prints(t *testing.T, what string, m api.Message, b string, terms []string, body, signed string) {
	t.Helper()
	if got, e := Print(m); string(got) != b || e != api.Fine {
		t.Errorf("%s: Print = %q, %d, not %q", what, short(string(got)), e, short(b))
	}
	tells(t, what, m, terms, body, signed)
}

// tells holds Terms, Body and Signed of m against what is written out.
func tells(t *testing.T, what string, m api.Message, terms []string, body, signed string) {
	t.Helper()
	if got := Terms(m); !slices.Equal(got, terms) {
		t.Errorf("%s: Terms = %q, not %q", what, short(strings.Join(got, " ")), short(strings.Join(terms, " ")))
	}
	if got := Body(m); got != body {
		t.Errorf("%s: Body = %q, not %q", what, short(got), short(body))
	}
	if got := Signed(m); got != signed {
		t.Errorf("%s: Signed = %q, not %q", what, short(got), short(signed))
	}
}

// isNone holds Print, Terms, Body and Signed of what is no message against nothing.
func isNone(t *testing.T, what string, m api.Message) {
	t.Helper()
	if got, e := Print(m); len(got) != 0 || e != api.Form {
		t.Errorf("%s: Print = %q, %d", what, short(string(got)), e)
	}
	tells(t, what, m, nil, "", "")
}

// fails holds Read of b against an error.
func fails(t *testing.T, what string, b []byte, want api.Code) {
	t.Helper()
	if m, e := Read(b); m != (api.Message{}) || e != want {
		t.Errorf("%s: Read(%q) = kind %d, %d, not %d", what, short(string(b)), m.Kind, e, want)
	}
}

// reads holds Read of b against a message.
func reads(t *testing.T, what string, b []byte, want api.Message) {
	t.Helper()
	if m, e := Read(b); m != want || e != api.Fine {
		t.Errorf("%s: Read(%q) = kind %d, %d", what, short(string(b)), m.Kind, e)
	}
}

// each goes through all kinds, with some message, and a name of its row.
func each(do func(m api.Message, name string)) {
	r := rand.New(rand.NewSource(1))
	for kind := api.Init; kind <= api.Transport; kind++ {
		l, _ := modelRow(kind)
		for _, name := range l {
			do(someMessage(r, kind), name)
		}
	}
}

// P6.1, P6.2: messages of each kind by hand, printed and read.
func TestByHand(t *testing.T) {
	for _, s := range samples() {
		prints(t, s.what, s.m, s.b, s.terms, s.body, s.signed)
		reads(t, s.what, []byte(s.b), s.m)
		if got := string(raw(s.m)); got != s.b {
			t.Errorf("%s: the model's bytes are %q", s.what, got)
		}
	}
}

// P6.1: Form of what has no such kind, whatever stands in its fields.
func TestPrintOtherKinds(t *testing.T) {
	isNone(t, "nothing", api.Message{})
	for _, kind := range []int{0, -1, -2, -3, -4, 5, 6, 255, 256, 257, 258, 259, 260, 1<<32 + 1, 1<<32 + 4, -255, -252, 1 << 62, -1 << 63, 1<<63 - 1} {
		isNone(t, "no fields", api.Message{Kind: kind})
		for _, s := range samples() {
			s.m.Kind = kind
			isNone(t, s.what+", of another kind", s.m)
		}
	}
	for _, s := range samples() {
		for kind := api.Init; kind <= api.Transport; kind++ {
			if m := s.m; kind != m.Kind {
				m.Kind = kind
				isNone(t, s.what+", of another's kind", m)
			}
		}
	}
	for kind := api.Init; kind <= api.Transport; kind++ {
		isNone(t, "a kind alone", api.Message{Kind: kind})
	}
}

// P6.1: Form, if a field isn't zero that the row doesn't name.
func TestPrintFieldsOfNoRow(t *testing.T) {
	r := rand.New(rand.NewSource(2))
	count := 0
	for kind := api.Init; kind <= api.Transport; kind++ {
		l, _ := modelRow(kind)
		for _, name := range names() {
			if slices.Contains(l, name) {
				continue
			}
			count++
			m := someMessage(r, kind)
			if !isTerm(name) {
				for _, u := range []uint64{1, 256, 1 << 31} {
					isNone(t, name, with(m, name, u))
				}
				continue
			}
			for _, s := range []string{"0", "a1", "l()", " ", "\x00", "b", fill(65535), fill(65536), fill(65537)} {
				isNone(t, name, with(m, name, s))
			}
		}
		if m := someMessage(r, kind); kind != api.Transport {
			isNone(t, "Counter", with(m, "Counter", uint64(1)<<32))
		}
	}
	if count != 4*len(names())-6-6-3-3 {
		t.Error(count)
	}
}

// P6.1, P6.2: Form of a text that is no term; then there is nothing to tell, either.
func TestPrintNoTerms(t *testing.T) {
	each(func(m api.Message, name string) {
		if !isTerm(name) {
			return
		}
		for _, s := range noTerms() {
			isNone(t, name, with(m, name, s))
		}
	})
}

// P6.1: a term of just 65535 bytes, and longer ones, those of MaxTerm bytes among them, which are terms.
func TestPrintLongTerms(t *testing.T) {
	each(func(m api.Message, name string) {
		if !isTerm(name) {
			return
		}
		for _, size := range []int{254, 255, 256, 257, 4096, 32767, 32768, 65279, 65280, 65534, 65535} {
			m = with(m, name, fill(size))
			b, e := Print(m)
			if e != api.Fine || !bytes.Equal(b, raw(m)) {
				t.Fatalf("%s of %d bytes: %d, %d bytes", name, size, e, len(b))
			}
			reads(t, name, b, m)
		}
		if term.Kind(fill(65536)) == 0 {
			t.Fatal("the text of MaxTerm bytes is no term")
		}
		for _, size := range []int{65536, 65537, 65538, 65539, 65536 + 255, 65536 + 4096, 2*65536 + 1, 1 << 20} {
			isNone(t, name, with(m, name, fill(size)))
		}
	})
	long := fill(65535)
	m := api.Message{Kind: api.Init, Sender: 9, Eph: long, Static: long, Stamp: long, Mac1: long, Mac2: long}
	b, e := Print(m)
	if e != api.Fine || len(b) != 8+5*65537 {
		t.Errorf("all of 65535 bytes: %d, %d bytes", e, len(b))
	}
	reads(t, "all of 65535 bytes", b, m)
}

// P6.1: a text whose length would go round to that of a term isn't one.
func TestPrintLengthDoesNotGoRound(t *testing.T) {
	for _, s := range []string{"0" + strings.Repeat("\x00", 65536), "0" + strings.Repeat("0", 65536), "a1" + strings.Repeat("1", 65536), "0\x01\x000" + strings.Repeat(" ", 65533)} {
		for _, m := range []api.Message{{Kind: api.Transport, Data: s}, {Kind: api.CookieMsg, Nonce: s, Cookie: "0"}, {Kind: api.CookieMsg, Nonce: "0", Cookie: s}} {
			isNone(t, "a length that goes round", m)
		}
	}
}

// P6.1: numbers at their ends, the lowest byte first, each at its own place.
func TestNumbers(t *testing.T) {
	each(func(m api.Message, name string) {
		if isTerm(name) {
			return
		}
		for _, u := range ends() {
			if name != "Counter" {
				u &= 1<<32 - 1
			}
			m = with(m, name, u)
			b, e := Print(m)
			if want := raw(m); e != api.Fine || !bytes.Equal(b, want) {
				t.Errorf("%s %d: %x, %d, not %x", name, u, b, e, want)
			}
			reads(t, name, b, m)
		}
	})
}

// P6.1: Short, wherever the bytes end; no bytes are, too.
func TestReadShort(t *testing.T) {
	fails(t, "nil", nil, api.Short)
	fails(t, "no bytes", []byte{}, api.Short)
	fails(t, "no bytes, with room", []byte(samples()[0].b)[:0], api.Short)
	r := rand.New(rand.NewSource(3))
	for range 50 {
		for kind := api.Init; kind <= api.Transport; kind++ {
			b := raw(someMessage(r, kind))
			for n := range b {
				fails(t, "the beginning", b[:n], api.Short)
				fails(t, "the beginning, without room", slices.Clip(bytes.Clone(b[:n])), api.Short)
				if n > 300 {
					break
				}
			}
			fails(t, "all but the last byte", b[:len(b)-1], api.Short)
		}
	}
	for _, s := range samples() {
		for n := range s.b {
			fails(t, s.what, []byte(s.b[:n]), api.Short)
		}
	}
}

// P6.1: Form of another kind, by itself, and with whatever stands behind.
func TestReadOtherKinds(t *testing.T) {
	for kind := range 256 {
		if kind >= 1 && kind <= 4 {
			fails(t, "a kind alone", []byte{byte(kind)}, api.Short)
			continue
		}
		fails(t, "another kind alone", []byte{byte(kind)}, api.Form)
		fails(t, "another kind", []byte{byte(kind), 0, 0, 0}, api.Form)
		fails(t, "another kind", make([]byte, 100), api.Form)
		for _, s := range samples() {
			b := []byte(s.b)
			b[0] = byte(kind)
			fails(t, s.what, b, api.Form)
			fails(t, s.what, append(b, 0), api.Form)
		}
	}
}

// P6.1: Form of another byte than 0, in each of the three places, wherever the bytes end behind it.
func TestReadNoNoughts(t *testing.T) {
	for _, s := range samples() {
		for at := 1; at <= 3; at++ {
			for x := 1; x < 256; x++ {
				b := []byte(s.b)
				b[at] = byte(x)
				fails(t, s.what, b, api.Form)
				for n := at + 1; n < 10; n++ {
					fails(t, s.what, b[:n], api.Form)
				}
				fails(t, s.what, b[:at], api.Short)
				fails(t, s.what, append(b, 1, 2), api.Form)
			}
		}
	}
}

// P6.1: Form of a text that is no term, wherever the bytes end behind it; the empty text's is told as soon as its length.
func TestReadNoTerms(t *testing.T) {
	each(func(m api.Message, name string) {
		if !isTerm(name) {
			return
		}
		for _, s := range noTerms() {
			m = with(m, name, s)
			b := raw(m)
			fails(t, name, b, api.Form)
			fails(t, name, append(bytes.Clone(b), 0), api.Form)
			end := len(before(m, name)) + 2 + len(s)
			fails(t, name, b[:end], api.Form)
			fails(t, name, b[:end-1], api.Short)
			if len(b) > end {
				fails(t, name, b[:end+1], api.Form)
			}
		}
	})
}

// before tells m's bytes ahead of those of a field.
func before(m api.Message, name string) []byte {
	b := raw(m)
	row, _ := modelRow(m.Kind)
	for _, behind := range row[slices.Index(row, name):] {
		switch {
		case isTerm(behind):
			b = b[:len(b)-2-at(&m, behind).Len()]
		case behind == "Counter":
			b = b[:len(b)-8]
		default:
			b = b[:len(b)-4]
		}
	}
	return b
}

// P6.1: Long, if something stands behind.
func TestReadLong(t *testing.T) {
	for _, s := range samples() {
		for _, behind := range []string{"\x00", "\xff", "0", "\x01\x000", s.b, strings.Repeat("\x00", 70000)} {
			fails(t, s.what, []byte(s.b+behind), api.Long)
		}
		for x := range 256 {
			fails(t, s.what, append([]byte(s.b), byte(x)), api.Long)
		}
		reads(t, s.what+", with room", append([]byte(s.b), 1, 2, 3)[:len(s.b)], s.m)
	}
}

// P6.1: which of two errors comes first, from the first byte on.
func TestReadWhichComesFirst(t *testing.T) {
	const begin = "\x03\x00\x00\x00\x07\x00\x00\x00"
	for _, c := range []struct {
		what, b string
		want    api.Code
	}{
		{"another kind, no noughts", "\x05\x01\x01\x01", api.Form}, {"no noughts, too few", "\x01\x01", api.Form}, {"too few noughts", "\x01\x00\x00", api.Short},
		{"no noughts, something behind", "\x03\x00\x00\x01\x07\x00\x00\x00\x01\x000\x01\x000rest", api.Form},
		{"a number too short, of no terms", begin[:7], api.Short}, {"half a length", begin + "\x00", api.Short}, {"half a length of much", begin + "\xff", api.Short},
		{"the empty text, nothing behind", begin + "\x00\x00", api.Form}, {"the empty text, a term behind", begin + "\x00\x00\x01\x000", api.Form},
		{"no term, but it ends in the midst", begin + "\x03\x00zz", api.Short}, {"no term, half a length behind", begin + "\x02\x00zz\x01", api.Form}, {"no term, too short a one behind", begin + "\x02\x00zz\x05\x000", api.Form},
		{"a term where it ends, of more", begin + "\x02\x000", api.Short}, {"a term, no bytes behind", begin + "\x01\x000", api.Short}, {"a term, no term behind", begin + "\x01\x000\x01\x00z", api.Form}, {"a term, the empty text behind", begin + "\x01\x000\x00\x00", api.Form},
		{"no term, something behind", begin + "\x01\x000\x01\x00zmore", api.Form}, {"the empty text, something behind", begin + "\x01\x000\x00\x00more", api.Form}, {"two terms, something behind", begin + "\x01\x000\x01\x000more", api.Long},
		{"two no terms", begin + "\x01\x00z\x01\x00z", api.Form}, {"a length of all, nothing there", begin + "\xff\xff", api.Short}, {"a length of all, less there", begin + "\xff\xff" + fill(65535)[:65534], api.Short},
		{"a length with its higher byte first", begin + "\x00\x010\x00\x010", api.Short}, {"a length that is too low", begin + "\x01\x00a1\x01\x000", api.Form},
	} {
		fails(t, c.what, []byte(c.b), c.want)
		if _, e := modelRead([]byte(c.b)); e != c.want {
			t.Errorf("%s: the model says %d", c.what, e)
		}
	}
}

// P6.1: bytes that are one or two away from a message's, as the model.
func TestReadAsTheModel(t *testing.T) {
	r := rand.New(rand.NewSource(4))
	codes := map[api.Code]int{}
	for range 15000 {
		b := raw(someMessage(r, 1+r.Intn(4)))
		for range 1 + r.Intn(2) {
			i := r.Intn(min(len(b), 60))
			x := []byte{byte(r.Intn(256))}
			if r.Intn(2) == 0 {
				x[0] = "\x00\x01\x02\x03\x040a1,()"[r.Intn(11)]
			}
			switch r.Intn(5) {
			case 0:
				b = append(b, x...)
			case 1:
				b = slices.Concat(b[:i], x, b[i:])
			case 2:
				b = slices.Concat(b[:i], x, b[i+1:])
			case 3:
				b = slices.Concat(b[:i], b[i+1:])
			}
		}
		m, e := Read(b)
		want, code := modelRead(b)
		if m != want || e != code {
			t.Fatalf("Read(%q) = %v, %d, not %v, %d", b, m, e, want, code)
		}
		codes[e]++
	}
	for _, e := range []api.Code{api.Fine, api.Short, api.Form, api.Long} {
		if codes[e] < 100 {
			t.Errorf("just %d were %d", codes[e], e)
		}
	}
}

// P6.1, P6.2: messages, and what differs from them in a field or two, as the model.
func TestPrintAsTheModel(t *testing.T) {
	r := rand.New(rand.NewSource(5))
	fine, bodies := 0, 0
	for range 8000 {
		m := someMessage(r, 1+r.Intn(4))
		for range r.Intn(3) {
			name := names()[r.Intn(len(names()))]
			switch {
			case isTerm(name) && r.Intn(2) == 0:
				m = with(m, name, noTerms()[r.Intn(len(noTerms()))])
			case isTerm(name):
				m = with(m, name, some()[r.Intn(len(some()))])
			default:
				m = with(m, name, uint64(r.Uint32()))
			}
		}
		b, e := Print(m)
		want, code := modelPrint(m)
		if !bytes.Equal(b, want) || e != code {
			t.Fatalf("Print(%v) = %q, %d, not %q, %d", m, b, e, want, code)
		}
		tells(t, "at random", m, modelTerms(m), modelBody(m), modelSigned(m))
		if e == api.Fine {
			fine++
		}
		if Body(m) != "" {
			bodies++
		}
	}
	if fine < 2000 || bodies < 800 || fine == 8000 {
		t.Errorf("%d messages, %d bodies", fine, bodies)
	}
}

// P6.2: Body holds Sender and Receiver at their ends as Numbers, and no sums; Signed holds Mac1, and not Mac2.
func TestBodyAndSigned(t *testing.T) {
	const most = "n4294967295"
	m := api.Message{Kind: api.Init, Sender: 1<<32 - 1, Eph: "a1", Static: "a2", Stamp: "a3", Mac1: "a4", Mac2: "a5"}
	tells(t, "an Init", m, []string{"a1", "a2", "a3", "a4", "a5"}, "l(n1,"+most+",n0,a1,a2,a3)", "l(l(n1,"+most+",n0,a1,a2,a3),a4)")
	m.Mac2 = "a6"
	tells(t, "another Mac2", m, []string{"a1", "a2", "a3", "a4", "a6"}, "l(n1,"+most+",n0,a1,a2,a3)", "l(l(n1,"+most+",n0,a1,a2,a3),a4)")
	m.Mac1 = "l(a4,a4)"
	tells(t, "another Mac1", m, []string{"a1", "a2", "a3", "l(a4,a4)", "a6"}, "l(n1,"+most+",n0,a1,a2,a3)", "l(l(n1,"+most+",n0,a1,a2,a3),l(a4,a4))")
	m = api.Message{Kind: api.Response, Sender: 1<<32 - 1, Receiver: 1<<32 - 1, Eph: "a1", Empty: "a2", Mac1: "a3", Mac2: "a4"}
	tells(t, "a Response", m, []string{"a1", "a2", "a3", "a4"}, "l(n2,"+most+","+most+",a1,a2)", "l(l(n2,"+most+","+most+",a1,a2),a3)")
	m.Sender, m.Receiver = 0, 10
	tells(t, "a Response", m, []string{"a1", "a2", "a3", "a4"}, "l(n2,n0,n10,a1,a2)", "l(l(n2,n0,n10,a1,a2),a3)")
}

// P6.2: a Body, or a Signed, of just MaxTerm bytes, and of more; the terms are told all the same.
func TestBodyAndSignedTooLong(t *testing.T) {
	for _, m := range []api.Message{
		{Kind: api.Init, Sender: 5, Eph: "a1", Static: "a2", Stamp: "a3", Mac1: "a4", Mac2: fill(65535)},
		{Kind: api.Response, Sender: 5, Receiver: 77, Eph: "a1", Empty: "a2", Mac1: "a4", Mac2: fill(65535)},
	} {
		row, _ := modelRow(m.Kind)
		for _, name := range row {
			if !isTerm(name) || name == "Mac1" || name == "Mac2" {
				continue
			}
			room := 65536 - (len(Body(m)) - 2)
			for more := -10; more <= 10; more++ {
				long := with(m, name, fill(room+more))
				tells(t, name, long, modelTerms(long), modelBody(long), modelSigned(long))
				if got := len(Body(long)); more <= 0 && got != 65536+more || more > 0 && got != 0 {
					t.Errorf("%s, %d more: Body has %d bytes", name, more, got)
				}
			}
		}
		room := 65536 - (len(Signed(m)) - 2)
		for more := -10; more <= 10; more++ {
			long := with(m, "Mac1", fill(room+more))
			tells(t, "Mac1", long, modelTerms(long), Body(m), modelSigned(long))
			if got := len(Signed(long)); more <= 0 && got != 65536+more || more > 0 && got != 0 {
				t.Errorf("Mac1, %d more: Signed has %d bytes", more, got)
			}
		}
		for _, name := range row {
			if isTerm(name) {
				m = with(m, name, fill(65535))
			}
		}
		tells(t, "all of 65535 bytes", m, modelTerms(m), "", "")
		if len(Terms(m)) < 4 {
			t.Errorf("all of 65535 bytes: %d terms", len(Terms(m)))
		}
	}
}

// P6.2: a CookieMsg and a Transport have terms, but neither Body nor Signed, also where a sum stands in them.
func TestNoBody(t *testing.T) {
	r := rand.New(rand.NewSource(6))
	for range 500 {
		m := someMessage(r, api.CookieMsg)
		tells(t, "a CookieMsg", m, []string{m.Nonce, m.Cookie}, "", "")
		m.Mac1 = "0"
		isNone(t, "a CookieMsg with a sum", m)
		m = someMessage(r, api.Transport)
		tells(t, "a Transport", m, []string{m.Data}, "", "")
		m.Mac1, m.Mac2 = "0", "0"
		isNone(t, "a Transport with sums", m)
	}
}

// P6.3: what is printed is read, and what is read is printed as it was.
func TestThereAndBack(t *testing.T) {
	r := rand.New(rand.NewSource(7))
	for i := range 8000 {
		m := someMessage(r, 1+i%4)
		b, e := Print(m)
		if e != api.Fine {
			t.Fatalf("Print(%v) = %d", m, e)
		}
		again, e := Read(b)
		if e != api.Fine || again != m {
			t.Fatalf("Read(Print(%v)) = %v, %d", m, again, e)
		}
		other, e := Read(raw(m))
		if e != api.Fine {
			t.Fatalf("Read(%q) = %d", raw(m), e)
		}
		if back, e := Print(other); e != api.Fine || !bytes.Equal(back, raw(m)) {
			t.Fatalf("Print(Read(%q)) = %q, %d", raw(m), back, e)
		}
	}
}

// P6.3: all short bytes that can be read, of a CookieMsg, are printed as they were.
func TestReadIsPrinted(t *testing.T) {
	const signs = "\x00\x01\x0205a"
	behind, read := []string{""}, 0
	for i := 0; len(behind[i]) < 7; i++ {
		for j := range signs {
			behind = append(behind, behind[i]+signs[j:j+1])
		}
	}
	for _, s := range behind {
		b := []byte("\x03\x00\x00\x00\x01\x02\x03\x04" + s)
		m, e := Read(b)
		want, code := modelRead(b)
		if m != want || e != code {
			t.Fatalf("Read(%q) = %v, %d, not %v, %d", b, m, e, want, code)
		}
		if e != api.Fine {
			continue
		}
		read++
		if back, e := Print(m); e != api.Fine || !bytes.Equal(back, b) {
			t.Errorf("Print(Read(%q)) = %q, %d", b, back, e)
		}
	}
	// Two 0; and a 0 with an a0 or a5, at either place.
	if read != 1+4 {
		t.Errorf("%d were read", read)
	}
}

// R4: what is handed in stays as it is, and isn't kept; what is told is the caller's.
func TestNothingIsShared(t *testing.T) {
	for _, s := range samples() {
		b := append([]byte(s.b), 1, 2, 3)
		was := bytes.Clone(b)
		m, _ := Read(b[:len(s.b)])
		if !bytes.Equal(b, was) {
			t.Errorf("%s: handed in: %q", s.what, b)
		}
		clear(b)
		if m != s.m {
			t.Errorf("%s: told: %v, later", s.what, m)
		}
		first, _ := Print(s.m)
		for i := range first[:cap(first)] {
			first[:cap(first)][i] = 0xff
		}
		l := Terms(s.m)
		for i := range l {
			l[i] = "b"
		}
		_ = append(l, "b")
		prints(t, s.what+", the second time", s.m, s.b, s.terms, s.body, s.signed)
	}
}
