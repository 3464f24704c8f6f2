package addr

import (
	"bytes"
	"math/rand"
	"testing"

	"snicket/api"
)

// all tells prefixes of that address, with each number of bits that can be and many that can't.
func all(a []byte) []api.Prefix {
	var l []api.Prefix
	for bits := -3; bits < 140; bits++ {
		l = append(l, api.Prefix{Addr: a, Bits: bits})
	}
	for _, bits := range ends() {
		l = append(l, api.Prefix{Addr: a, Bits: bits})
	}
	return l
}

// P4.1: an address of 4 bytes, or 16, and Bits from 0 to 8 times as many.
func TestRight(t *testing.T) {
	for _, a := range lists() {
		for _, p := range all(a) {
			want := len(a) == 4 && 0 <= p.Bits && p.Bits <= 32 || len(a) == 16 && 0 <= p.Bits && p.Bits <= 128
			if got := Right(p); got != want {
				t.Errorf("Right of %d bytes and %d bits: %t", len(a), p.Bits, got)
			}
		}
	}
}

// P4.1: the chapter's example, and others by hand.
func TestPlainByHand(t *testing.T) {
	ones := []byte{0xff, 0xff, 0xff, 0xff, 0xff, 0xff, 0xff, 0xff, 0xff, 0xff, 0xff, 0xff, 0xff, 0xff, 0xff, 0xff}
	for _, c := range []struct {
		a    []byte
		bits int
		want []byte
	}{
		{[]byte{10, 0, 0, 7}, 24, []byte{10, 0, 0, 0}}, {[]byte{10, 0, 0, 7}, 32, []byte{10, 0, 0, 7}}, {[]byte{10, 0, 0, 7}, 31, []byte{10, 0, 0, 6}}, {[]byte{10, 0, 0, 7}, 30, []byte{10, 0, 0, 4}},
		{[]byte{10, 0, 0, 7}, 0, []byte{0, 0, 0, 0}}, {[]byte{255, 255, 255, 255}, 1, []byte{128, 0, 0, 0}}, {[]byte{255, 255, 255, 255}, 9, []byte{255, 128, 0, 0}}, {[]byte{255, 255, 255, 255}, 7, []byte{254, 0, 0, 0}},
		{[]byte{255, 255, 255, 255}, 8, []byte{255, 0, 0, 0}}, {[]byte{255, 255, 255, 255}, 20, []byte{255, 255, 240, 0}}, {ones, 64, append(ones[:8:8], make([]byte, 8)...)}, {ones, 67, append(append(ones[:8:8], 0xe0), make([]byte, 7)...)},
		{ones, 128, ones}, {ones, 127, append(ones[:15:15], 0xfe)}, {ones, 33, append(append(ones[:4:4], 0x80), make([]byte, 11)...)}, {ones, 0, make([]byte, 16)},
	} {
		if p, e := Plain(api.Prefix{Addr: c.a, Bits: c.bits}); !samePrefix(p, api.Prefix{Addr: c.want, Bits: c.bits}) || e != api.Fine {
			t.Errorf("Plain(%v, %d) = %v, %d, not %v", c.a, c.bits, p, e, c.want)
		}
	}
}

// P4.1: all bits from the place Bits on are 0, those ahead of it stay; Form of what isn't right.
func TestPlain(t *testing.T) {
	l := append(lists(), addresses(rand.New(rand.NewSource(1)), 40)...)
	for _, a := range l {
		for _, p := range all(a) {
			got, e := Plain(p)
			if want, code := modelPlain(p); !samePrefix(got, want) || e != code {
				t.Fatalf("Plain(%v, %d) = %v, %d, not %v, %d", a, p.Bits, got, e, want, code)
			}
			if again, code := Plain(got); !samePrefix(again, got) || code != e {
				t.Fatalf("Plain(%v) = %v, %d", got, again, code)
			}
		}
	}
}

// P4.1: Form of what isn't right, with nothing beside it.
func TestPlainForm(t *testing.T) {
	for _, p := range []api.Prefix{{}, {Bits: 8}, {Addr: []byte{}}, {Addr: []byte{1, 2, 3, 4}, Bits: -1}, {Addr: []byte{1, 2, 3, 4}, Bits: 33}, {Addr: make([]byte, 16), Bits: 129}, {Addr: make([]byte, 16), Bits: -1}, {Addr: make([]byte, 6), Bits: 48}, {Addr: make([]byte, 5), Bits: 32}, {Addr: make([]byte, 3), Bits: 8}} {
		if q, e := Plain(p); len(q.Addr) != 0 || q.Bits != 0 || e != api.Form {
			t.Errorf("Plain(%v) = %v, %d", p, q, e)
		}
	}
}

// P4.1: has it the address? By hand.
func TestHasByHand(t *testing.T) {
	ten := []byte{10, 0, 0, 7}
	for _, c := range []struct {
		addr []byte
		bits int
		a    []byte
		want bool
	}{
		{ten, 24, []byte{10, 0, 0, 255}, true}, {ten, 24, []byte{10, 0, 1, 7}, false}, {ten, 32, ten, true}, {ten, 32, []byte{10, 0, 0, 6}, false}, {ten, 31, []byte{10, 0, 0, 6}, true}, {ten, 31, []byte{10, 0, 0, 5}, false},
		{ten, 0, []byte{255, 1, 2, 3}, true}, {ten, 1, []byte{127, 1, 2, 3}, true}, {ten, 1, []byte{128, 0, 0, 7}, false}, {ten, 8, []byte{10, 255, 255, 255}, true}, {ten, 8, []byte{11, 0, 0, 7}, false}, {ten, 7, []byte{11, 0, 0, 7}, true},
		{ten, 9, []byte{10, 127, 0, 0}, true}, {ten, 9, []byte{10, 128, 0, 7}, false}, {ten, 25, []byte{10, 0, 0, 127}, true}, {ten, 25, []byte{10, 0, 0, 135}, false},
		{ten, 0, make([]byte, 16), false}, {make([]byte, 16), 0, ten, false}, {make([]byte, 16), 0, make([]byte, 16), true}, {make([]byte, 16), 128, make([]byte, 16), true}, {make([]byte, 4), 32, make([]byte, 16), false}, {make([]byte, 16), 32, make([]byte, 4), false},
		{make([]byte, 16), 127, append(make([]byte, 15), 1), true}, {make([]byte, 16), 128, append(make([]byte, 15), 1), false}, {make([]byte, 16), 127, append(make([]byte, 15), 2), false},
		{nil, 0, nil, false}, {nil, 0, ten, false}, {ten, 0, nil, false}, {[]byte{}, 0, []byte{}, false}, {ten[:3], 0, ten[:3], false}, {ten, 24, ten[:3], false}, {ten, 0, append(ten[:4:4], 0), false},
		{ten, 33, ten, false}, {ten, -1, ten, false}, {make([]byte, 16), 129, make([]byte, 16), false}, {make([]byte, 16), -1, make([]byte, 16), false}, {make([]byte, 8), 8, make([]byte, 8), false},
	} {
		if got := Has(api.Prefix{Addr: c.addr, Bits: c.bits}, c.a); got != c.want {
			t.Errorf("Has(%v, %d, %v) = %t", c.addr, c.bits, c.a, got)
		}
	}
}

// P4.1: it hangs on the first Bits bits alone, and on each of them.
func TestHasEachBit(t *testing.T) {
	for _, addr := range addresses(rand.New(rand.NewSource(2)), 8) {
		for _, p := range all(addr) {
			for at := range 8 * len(addr) {
				a := bytes.Clone(addr)
				a[at/8] ^= 0x80 >> (at % 8)
				if got, want := Has(p, a), Right(p) && at >= p.Bits; got != want {
					t.Fatalf("Has(%v, %d, ..) = %t of one whose bit %d is another", addr, p.Bits, got, at)
				}
			}
			if Has(p, addr) != Right(p) {
				t.Fatalf("Has(%v, %d, ..) = %t of its own", addr, p.Bits, !Right(p))
			}
		}
	}
}

// P4.1: what isn't right has none, and no prefix has what is no address.
func TestHasOfNoAddress(t *testing.T) {
	for _, addr := range lists() {
		for _, a := range lists() {
			for _, bits := range append(ends(), 0, 1, 8, 24, 32, 33, 128) {
				p := api.Prefix{Addr: addr, Bits: bits}
				if got := Has(p, a); got != modelHas(p, a) {
					t.Fatalf("Has of %d bytes and %d bits, %v: %t", len(addr), bits, a[:min(len(a), 16)], got)
				}
			}
		}
	}
}

// P4.1: many at random, near each other.
func TestHasAndWithinAsTheModel(t *testing.T) {
	r := rand.New(rand.NewSource(3))
	l := addresses(r, 20)
	var yes, no int
	for range 60000 {
		a, b := l[r.Intn(len(l))], bytes.Clone(l[r.Intn(len(l))])
		if r.Intn(3) > 0 {
			b = bytes.Clone(a)
			at := r.Intn(8 * len(b))
			b[at/8] ^= 1 << (at % 8)
		}
		p := api.Prefix{Addr: a, Bits: r.Intn(8*len(a)+4) - 1}
		q := api.Prefix{Addr: b, Bits: r.Intn(8*len(b)+4) - 1}
		if got := Has(p, b); got != modelHas(p, b) {
			t.Fatalf("Has(%v, %v) = %t", p, b, got)
		}
		got := Within(p, q)
		if got != modelWithin(p, q) {
			t.Fatalf("Within(%v, %v) = %t", p, q, got)
		}
		if got {
			yes++
		} else {
			no++
		}
	}
	if yes < 5000 || no < 5000 {
		t.Errorf("%d within, %d not", yes, no)
	}
}

// P4.1: has q all that p has? By hand.
func TestWithinByHand(t *testing.T) {
	pre := func(bits int, a ...byte) api.Prefix { return api.Prefix{Addr: a, Bits: bits} }
	zeros := func(bits int) api.Prefix { return api.Prefix{Addr: make([]byte, 16), Bits: bits} }
	for _, c := range []struct {
		p, q api.Prefix
		want bool
	}{
		{pre(24, 10, 0, 0, 0), pre(8, 10, 0, 0, 0), true}, {pre(8, 10, 0, 0, 0), pre(24, 10, 0, 0, 0), false}, {pre(24, 10, 0, 0, 0), pre(24, 10, 0, 0, 0), true}, {pre(24, 10, 0, 0, 9), pre(24, 10, 0, 0, 7), true},
		{pre(25, 10, 0, 0, 128), pre(24, 10, 0, 0, 0), true}, {pre(24, 10, 0, 0, 0), pre(25, 10, 0, 0, 128), false}, {pre(24, 10, 0, 0, 0), pre(25, 10, 0, 0, 0), false}, {pre(25, 10, 0, 0, 128), pre(25, 10, 0, 0, 0), false},
		{pre(24, 10, 0, 0, 0), pre(8, 11, 0, 0, 0), false}, {pre(24, 10, 9, 9, 9), pre(8, 10, 1, 2, 3), true}, {pre(0, 1, 2, 3, 4), pre(0, 9, 9, 9, 9), true}, {pre(1, 0, 0, 0, 0), pre(0, 9, 9, 9, 9), true}, {pre(0, 0, 0, 0, 0), pre(1, 0, 0, 0, 0), false},
		{pre(32, 1, 2, 3, 4), pre(32, 1, 2, 3, 4), true}, {pre(32, 1, 2, 3, 4), pre(32, 1, 2, 3, 5), false}, {pre(32, 1, 2, 3, 4), pre(31, 1, 2, 3, 5), true}, {pre(31, 1, 2, 3, 4), pre(32, 1, 2, 3, 4), false},
		{zeros(64), zeros(64), true}, {zeros(128), zeros(0), true}, {zeros(0), zeros(128), false}, {zeros(128), zeros(127), true},
		{pre(32, 0, 0, 0, 0), zeros(32), false}, {zeros(32), pre(32, 0, 0, 0, 0), false}, {zeros(128), pre(0, 0, 0, 0, 0), false}, {pre(32, 0, 0, 0, 0), zeros(0), false}, {pre(0, 0, 0, 0, 0), zeros(0), false},
		{pre(33, 1, 2, 3, 4), pre(0, 0, 0, 0, 0), false}, {pre(-1, 1, 2, 3, 4), pre(-1, 1, 2, 3, 4), false}, {pre(24, 1, 2, 3, 4), pre(-1, 1, 2, 3, 4), false}, {pre(33, 1, 2, 3, 4), pre(33, 1, 2, 3, 4), false}, {zeros(129), zeros(0), false}, {zeros(129), zeros(129), false}, {zeros(8), zeros(-8), false},
		{api.Prefix{}, api.Prefix{}, false}, {api.Prefix{}, pre(0, 0, 0, 0, 0), false}, {pre(32, 0, 0, 0, 0), api.Prefix{}, false}, {pre(8, 1, 2, 3), pre(8, 1, 2, 3), false}, {pre(0), pre(0), false},
	} {
		if got := Within(c.p, c.q); got != c.want {
			t.Errorf("Within(%v, %v) = %t", c.p, c.q, got)
		}
	}
}

// P4.1: no, if one isn't right, whatever is wrong.
func TestWithinOfWrongOnes(t *testing.T) {
	wrong := []api.Prefix{{}, {Bits: 1}}
	for _, a := range lists() {
		for _, bits := range append(ends(), 0, 32, 33, 128) {
			if p := (api.Prefix{Addr: a, Bits: bits}); !modelRight(p) {
				wrong = append(wrong, p)
			}
		}
	}
	for _, p := range wrong {
		for _, q := range []api.Prefix{p, {Addr: make([]byte, 4)}, {Addr: make([]byte, 16)}, {Addr: make([]byte, 4), Bits: 32}, {Addr: make([]byte, 16), Bits: 128}, {}} {
			if Within(p, q) || Within(q, p) {
				t.Errorf("of %d bytes and %d bits, and %v: %t, %t", len(p.Addr), p.Bits, q, Within(p, q), Within(q, p))
			}
		}
	}
}

// R4: what is handed in stays as it is, and what is told is the caller's.
func TestPrefixesAreNotShared(t *testing.T) {
	for _, bits := range []int{0, 13, 24, 32} {
		room := []byte{10, 1, 2, 3, 4, 5, 6, 7}
		p := api.Prefix{Addr: room[:4], Bits: bits}
		q, _ := Plain(p)
		want, _ := modelPlain(p)
		Has(p, room[4:])
		Within(p, api.Prefix{Addr: room[4:], Bits: 3})
		if !bytes.Equal(room, []byte{10, 1, 2, 3, 4, 5, 6, 7}) || len(p.Addr) != 4 || p.Bits != bits {
			t.Errorf("handed in, of %d bits: %v", bits, room)
		}
		clear(room)
		if !samePrefix(q, want) {
			t.Errorf("told, of %d bits: %v, later", bits, q)
		}
		again, _ := Plain(q)
		_ = append(again.Addr[:0], 9, 9, 9, 9)
		if !samePrefix(q, want) {
			t.Errorf("of %d bits: the plain one's own plain one is the same memory", bits)
		}
	}
}
