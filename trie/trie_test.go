package trie

import (
	"bytes"
	"math"
	"math/rand"
	"runtime"
	"slices"
	"testing"

	"snicket/api"
)

// puts tells a table in which all of these stand.
func puts(t *testing.T, rows ...Row) *Table {
	t.Helper()
	x := New()
	for _, r := range rows {
		if e := x.Put(r.Prefix, r.Owner); e != api.Fine {
			t.Fatalf("Put(%v, %d) = %d", r.Prefix, r.Owner, e)
		}
	}
	return x
}

// owned holds Owner of an address against an owner; -1 is none.
func owned(t *testing.T, x *Table, want int, a ...byte) {
	t.Helper()
	n, ok := x.Owner(a)
	if want < 0 && (n != 0 || ok) || want >= 0 && (n != want || !ok) {
		t.Errorf("Owner(%v) = %d, %t, not %d", a, n, ok, want)
	}
}

// stands holds Rows against what is written out.
func stands(t *testing.T, x *Table, want ...Row) {
	t.Helper()
	if l := x.Rows(); !slices.EqualFunc(l, want, sameRow) {
		t.Errorf("Rows = %v, not %v", l, want)
	}
}

// has holds Of an owner against what is written out.
func has(t *testing.T, x *Table, owner int, want ...api.Prefix) {
	t.Helper()
	if l := x.Of(owner); !slices.EqualFunc(l, want, samePrefix) {
		t.Errorf("Of(%d) = %v, not %v", owner, l, want)
	}
}

// P8.1: the chapter's example.
func TestExample(t *testing.T) {
	l := []Row{{prefix(8, 10, 0, 0, 0), 1}, {prefix(24, 10, 0, 0, 0), 2}}
	for _, x := range []*Table{puts(t, l...), puts(t, l[1], l[0])} {
		owned(t, x, 2, 10, 0, 0, 9)
		owned(t, x, 1, 10, 0, 1, 9)
		owned(t, x, -1, 11, 0, 0, 9)
		stands(t, x, l...)
	}
}

// P8.1, P8.2: a table without prefixes.
func TestNew(t *testing.T) {
	x := New()
	if x == nil {
		t.Fatal("no table")
	}
	stands(t, x)
	has(t, x, 0)
	owned(t, x, -1, 0, 0, 0, 0)
	owned(t, x, -1, zeros(0).Addr...)
	if x.Del(prefix(0, 0, 0, 0, 0)) || x.Del(zeros(0)) || x.Del(prefix(32, 1, 2, 3, 4)) {
		t.Error("what isn't there was")
	}
	if n := x.Drop(0); n != 0 {
		t.Errorf("Drop = %d", n)
	}
	stands(t, x)
	y := New()
	x.Put(zeros(0), 3)
	stands(t, y)
}

// P8.1: prefixes in each other, and beside each other, at both ends of each and just outside.
func TestOwner(t *testing.T) {
	x := puts(t, Row{prefix(25, 10, 0, 0, 128), 3}, Row{prefix(8, 10, 0, 0, 0), 1}, Row{prefix(32, 10, 0, 0, 200), 4}, Row{prefix(24, 10, 0, 0, 0), 2}, Row{prefix(24, 10, 0, 2, 0), 5}, Row{prefix(12, 172, 16, 0, 0), 0})
	for _, c := range []struct {
		owner int
		a     []byte
	}{
		{-1, []byte{9, 255, 255, 255}}, {2, []byte{10, 0, 0, 0}}, {2, []byte{10, 0, 0, 127}}, {3, []byte{10, 0, 0, 128}}, {3, []byte{10, 0, 0, 199}}, {4, []byte{10, 0, 0, 200}}, {3, []byte{10, 0, 0, 201}}, {3, []byte{10, 0, 0, 255}},
		{1, []byte{10, 0, 1, 0}}, {1, []byte{10, 0, 1, 255}}, {5, []byte{10, 0, 2, 0}}, {5, []byte{10, 0, 2, 255}}, {1, []byte{10, 0, 3, 0}}, {1, []byte{10, 255, 255, 255}}, {-1, []byte{11, 0, 0, 0}},
		{-1, []byte{172, 15, 255, 255}}, {0, []byte{172, 16, 0, 0}}, {0, []byte{172, 31, 255, 255}}, {-1, []byte{172, 32, 0, 0}}, {-1, []byte{0, 0, 0, 0}}, {-1, []byte{255, 255, 255, 255}},
	} {
		owned(t, x, c.owner, c.a...)
	}
	owned(t, x, -1, zeros(0, 10, 0, 0, 200).Addr...)
	owned(t, x, -1, append(make([]byte, 12), 10, 0, 0, 200)...)
}

// P8.1: the same of 16 bytes.
func TestOwnerLong(t *testing.T) {
	x := puts(t, Row{zeros(64, 0xfd, 0, 0, 1), 2}, Row{zeros(8, 0xfd), 1}, Row{zeros(65, 0xfd, 0, 0, 1, 0, 0, 0, 0, 0x80), 3}, Row{zeros(128, 0xfd, 0, 0, 1, 0, 0, 0, 0, 0x80, 0, 0, 0, 0, 0, 0, 7), 4})
	at := func(owner int, first ...byte) { t.Helper(); owned(t, x, owner, zeros(0, first...).Addr...) }
	at(-1, 0xfc, 255, 255, 255, 255, 255, 255, 255, 255, 255, 255, 255, 255, 255, 255, 255)
	at(1, 0xfd)
	at(1, 0xfd, 0, 0, 0, 255, 255, 255, 255, 255, 255, 255, 255, 255, 255, 255, 255)
	at(2, 0xfd, 0, 0, 1)
	at(2, 0xfd, 0, 0, 1, 0, 0, 0, 0, 0x7f, 255, 255, 255, 255, 255, 255, 255)
	at(3, 0xfd, 0, 0, 1, 0, 0, 0, 0, 0x80)
	at(3, 0xfd, 0, 0, 1, 0, 0, 0, 0, 0x80, 0, 0, 0, 0, 0, 0, 6)
	at(4, 0xfd, 0, 0, 1, 0, 0, 0, 0, 0x80, 0, 0, 0, 0, 0, 0, 7)
	at(3, 0xfd, 0, 0, 1, 0, 0, 0, 0, 0x80, 0, 0, 0, 0, 0, 0, 8)
	at(3, 0xfd, 0, 0, 1, 0, 0, 0, 0, 255, 255, 255, 255, 255, 255, 255, 255)
	at(1, 0xfd, 0, 0, 1, 0, 0, 0, 1)
	at(1, 0xfd, 255, 255, 255, 255, 255, 255, 255, 255, 255, 255, 255, 255, 255, 255, 255)
	at(-1, 0xfe)
	owned(t, x, -1, 0xfd, 0, 0, 1)
}

// P8.1: 0 bits have all addresses of as many bytes, and no other ones; all bits have one.
func TestNoneAndAllBits(t *testing.T) {
	ones := bytes.Repeat([]byte{255}, 16)
	x := puts(t, Row{prefix(0, 0, 0, 0, 0), 4})
	owned(t, x, 4, 0, 0, 0, 0)
	owned(t, x, 4, ones[:4]...)
	owned(t, x, -1, ones...)
	owned(t, x, -1, make([]byte, 16)...)
	x = puts(t, Row{zeros(0), 16})
	owned(t, x, 16, ones...)
	owned(t, x, 16, make([]byte, 16)...)
	owned(t, x, -1, ones[:4]...)
	x = puts(t, Row{zeros(0), 16}, Row{prefix(0, 0, 0, 0, 0), 4}, Row{prefix(32, 255, 255, 255, 255), 32}, Row{api.Prefix{Addr: ones, Bits: 128}, 128}, Row{prefix(32, 0, 0, 0, 0), 33}, Row{zeros(128), 129})
	owned(t, x, 32, ones[:4]...)
	owned(t, x, 4, 255, 255, 255, 254)
	owned(t, x, 33, 0, 0, 0, 0)
	owned(t, x, 4, 0, 0, 0, 1)
	owned(t, x, 128, ones...)
	owned(t, x, 16, append(bytes.Repeat([]byte{255}, 15), 254)...)
	owned(t, x, 129, make([]byte, 16)...)
	owned(t, x, 16, append(make([]byte, 15), 1)...)
	stands(t, x, Row{prefix(0, 0, 0, 0, 0), 4}, Row{prefix(32, 0, 0, 0, 0), 33}, Row{prefix(32, 255, 255, 255, 255), 32}, Row{zeros(0), 16}, Row{zeros(128), 129}, Row{api.Prefix{Addr: ones, Bits: 128}, 128})
	for _, p := range []api.Prefix{prefix(0, 9, 9, 9, 9), {Addr: ones, Bits: 0}} {
		if !x.Del(p) || x.Del(p) {
			t.Errorf("Del(%v)", p)
		}
	}
	owned(t, x, -1, 0, 0, 0, 1)
	owned(t, x, 33, 0, 0, 0, 0)
	owned(t, x, -1, append(make([]byte, 15), 1)...)
	owned(t, x, 129, make([]byte, 16)...)
}

// P8.1: each number of bits by itself, and all of them at once, for addresses at both ends and just outside.
func TestEachNumberOfBits(t *testing.T) {
	for _, a := range [][]byte{{0, 0, 0, 0}, {255, 255, 255, 255}, {0xa5, 0x5a, 0x33, 0xcc}, make([]byte, 16), bytes.Repeat([]byte{255}, 16), bytes.Repeat([]byte{0xa5, 0x3c}, 8)} {
		all := newBoth()
		for bits := range 8*len(a) + 1 {
			one := newBoth()
			one.put(t, api.Prefix{Addr: a, Bits: bits}, bits)
			one.whole(t)
			all.put(t, api.Prefix{Addr: a, Bits: bits}, bits)
		}
		all.whole(t)
		for bits := 0; bits <= 8*len(a); bits += 8 * len(a) / 16 {
			all.del(t, api.Prefix{Addr: a, Bits: bits})
			all.whole(t)
		}
	}
}

// P8.1, P8.2: prefixes that differ in their last bit alone, of each number of bits.
func TestLastBit(t *testing.T) {
	for _, size := range []int{4, 16} {
		for bits := 1; bits <= 8*size; bits++ {
			one, other := make([]byte, size), make([]byte, size)
			other[(bits-1)/8] = 0x80 >> ((bits - 1) % 8)
			x := newBoth()
			x.put(t, api.Prefix{Addr: other, Bits: bits}, 2)
			x.put(t, api.Prefix{Addr: one, Bits: bits}, 1)
			x.whole(t)
			stands(t, x.t, Row{api.Prefix{Addr: one, Bits: bits}, 1}, Row{api.Prefix{Addr: other, Bits: bits}, 2})
			owned(t, x.t, 1, one...)
			owned(t, x.t, 2, other...)
			x.del(t, api.Prefix{Addr: one, Bits: bits})
			x.whole(t)
			owned(t, x.t, -1, one...)
			owned(t, x.t, 2, other...)
		}
	}
}

// P8.1: the same prefix twice, with the same owner and with another one: it stands there once, with the last one.
func TestPutTwice(t *testing.T) {
	p, q := prefix(24, 10, 0, 0, 0), zeros(64, 0xfd)
	x := puts(t, Row{p, 1}, Row{q, 1}, Row{p, 1})
	stands(t, x, Row{p, 1}, Row{q, 1})
	has(t, x, 1, p, q)
	x.Put(p, 0)
	x.Put(q, math.MaxInt)
	stands(t, x, Row{p, 0}, Row{q, math.MaxInt})
	has(t, x, 0, p)
	has(t, x, 1)
	has(t, x, math.MaxInt, q)
	owned(t, x, 0, 10, 0, 0, 9)
	owned(t, x, math.MaxInt, zeros(0, 0xfd, 0, 0, 0, 0, 0, 0, 0, 9).Addr...)
	if !x.Del(p) || x.Del(p) {
		t.Error("it was there twice")
	}
	owned(t, x, -1, 10, 0, 0, 9)
	if n := x.Drop(1); n != 0 {
		t.Errorf("Drop of the old owner = %d", n)
	}
	stands(t, x, Row{q, math.MaxInt})
}

// P8.1: of prefixes that aren't plain the plain one with the same addresses counts.
func TestNotPlain(t *testing.T) {
	x := New()
	x.Put(prefix(24, 10, 0, 0, 7), 1)
	stands(t, x, Row{prefix(24, 10, 0, 0, 0), 1})
	owned(t, x, 1, 10, 0, 0, 0)
	owned(t, x, 1, 10, 0, 0, 255)
	owned(t, x, -1, 10, 0, 1, 7)
	x.Put(prefix(24, 10, 0, 0, 9), 2)
	x.Put(zeros(7, 0xfd, 1, 2, 3), 3)
	x.Put(prefix(0, 1, 2, 3, 4), 4)
	stands(t, x, Row{prefix(0, 0, 0, 0, 0), 4}, Row{prefix(24, 10, 0, 0, 0), 2}, Row{zeros(7, 0xfc), 3})
	has(t, x, 3, zeros(7, 0xfc))
	if x.Del(prefix(25, 10, 0, 0, 7)) || x.Del(prefix(23, 10, 0, 0, 7)) || x.Del(prefix(24, 10, 0, 1, 0)) {
		t.Error("others went")
	}
	if !x.Del(prefix(24, 10, 0, 0, 255)) || x.Del(prefix(24, 10, 0, 0, 0)) {
		t.Error("the plain one didn't go")
	}
	if !x.Del(zeros(7, 0xfc, 9)) || !x.Del(prefix(0, 255, 0, 255, 0)) {
		t.Error("the others didn't go")
	}
	stands(t, x)
}

// P8.1: Del of one that lies within another, of one that others lie in, and of one that isn't there.
func TestDel(t *testing.T) {
	outer, mid, inner, beside := Row{prefix(8, 10, 0, 0, 0), 1}, Row{prefix(16, 10, 1, 0, 0), 2}, Row{prefix(24, 10, 1, 1, 0), 3}, Row{prefix(24, 10, 1, 2, 0), 4}
	all := []Row{outer, mid, inner, beside}
	for _, c := range []struct {
		gone                      Row
		inInner, inMid, in, aside int
	}{
		{inner, 2, 2, 1, 4}, {mid, 3, 1, 1, 4}, {outer, 3, 2, -1, 4}, {beside, 3, 2, 1, 2},
	} {
		x := puts(t, all...)
		if !x.Del(c.gone.Prefix) || x.Del(c.gone.Prefix) {
			t.Errorf("Del(%v)", c.gone.Prefix)
		}
		owned(t, x, c.inInner, 10, 1, 1, 0)
		owned(t, x, c.inInner, 10, 1, 1, 255)
		owned(t, x, c.inMid, 10, 1, 0, 255)
		owned(t, x, c.inMid, 10, 1, 3, 0)
		owned(t, x, c.in, 10, 0, 255, 255)
		owned(t, x, c.in, 10, 2, 0, 0)
		owned(t, x, c.aside, 10, 1, 2, 0)
		owned(t, x, -1, 11, 0, 0, 0)
		stands(t, x, slices.DeleteFunc(slices.Clone(all), func(r Row) bool { return sameRow(r, c.gone) })...)
	}
	x := puts(t, all...)
	// Not there: where two that are there part, and above, beside and beneath them; and those of 16 bytes with the same bits.
	for _, p := range []api.Prefix{prefix(22, 10, 1, 0, 0), prefix(0, 0, 0, 0, 0), prefix(7, 10, 0, 0, 0), prefix(9, 10, 0, 0, 0), prefix(15, 10, 0, 0, 0), prefix(17, 10, 1, 0, 0), prefix(23, 10, 1, 0, 0), prefix(23, 10, 1, 2, 0), prefix(25, 10, 1, 1, 0), prefix(25, 10, 1, 2, 128), prefix(32, 10, 1, 1, 0), prefix(24, 10, 1, 3, 0), prefix(8, 11, 0, 0, 0), zeros(8, 10), zeros(16, 10, 1), zeros(24, 10, 1, 1), zeros(0)} {
		if x.Del(p) {
			t.Errorf("Del(%v)", p)
		}
		owned(t, x, -1, 11, 0, 0, 0)
		stands(t, x, all...)
	}
}

// P8.1: Drop of an owner with none, with some and with all of them.
func TestDrop(t *testing.T) {
	a, b, c, d := Row{prefix(8, 10, 0, 0, 0), 1}, Row{prefix(24, 10, 0, 0, 0), 2}, Row{prefix(32, 10, 0, 0, 9), 1}, Row{zeros(64, 0xfd), 1}
	x := puts(t, a, b, c, d)
	for _, owner := range []int{0, 3, math.MaxInt, -1, math.MinInt} {
		if n := x.Drop(owner); n != 0 {
			t.Errorf("Drop(%d) = %d", owner, n)
		}
	}
	stands(t, x, a, b, c, d)
	if n := x.Drop(1); n != 3 {
		t.Errorf("Drop of some = %d", n)
	}
	stands(t, x, b)
	owned(t, x, 2, 10, 0, 0, 9)
	owned(t, x, -1, 10, 0, 1, 0)
	owned(t, x, -1, 9, 255, 255, 255)
	owned(t, x, -1, zeros(0, 0xfd).Addr...)
	if n := x.Drop(1); n != 0 {
		t.Errorf("Drop again = %d", n)
	}
	if n := x.Drop(2); n != 1 {
		t.Errorf("Drop of all = %d", n)
	}
	stands(t, x)
	owned(t, x, -1, 10, 0, 0, 9)
	x = puts(t, Row{a.Prefix, 0}, Row{b.Prefix, 0}, Row{c.Prefix, 0}, Row{d.Prefix, 0})
	if n := x.Drop(0); n != 4 {
		t.Errorf("Drop of all = %d", n)
	}
	stands(t, x)
	has(t, x, 0)
	if e := x.Put(a.Prefix, 5); e != api.Fine {
		t.Errorf("Put after all went: %d", e)
	}
	stands(t, x, Row{a.Prefix, 5})
}

// P8.2: those of 4 bytes first, then by their bytes, then the one with fewer bits.
func TestOrder(t *testing.T) {
	want := []Row{
		{prefix(0, 0, 0, 0, 0), 7}, {prefix(1, 0, 0, 0, 0), 1}, {prefix(32, 0, 0, 0, 0), 0}, {prefix(32, 0, 0, 0, 1), 1}, {prefix(31, 0, 0, 0, 2), 0}, {prefix(8, 1, 0, 0, 0), 1}, {prefix(8, 10, 0, 0, 0), 1}, {prefix(24, 10, 0, 0, 0), 0},
		{prefix(32, 10, 0, 0, 0), 1}, {prefix(32, 10, 0, 0, 255), 1}, {prefix(24, 10, 0, 1, 0), 1}, {prefix(16, 10, 1, 0, 0), 0}, {prefix(8, 127, 0, 0, 0), 1}, {prefix(1, 128, 0, 0, 0), 0}, {prefix(9, 128, 0, 0, 0), 1}, {prefix(32, 255, 255, 255, 255), 1},
		{zeros(0), 1}, {zeros(128), 0}, {sibling(zeros(128)), 1}, {zeros(9, 0, 128), 1}, {zeros(8, 1), 0}, {zeros(128, 9, 255), 1}, {zeros(4, 16), 1}, {zeros(32, 127, 255), 0}, {zeros(1, 128), 1}, {zeros(2, 128), 0}, {zeros(3, 128), 1}, {zeros(8, 255), 1},
	}
	r := rand.New(rand.NewSource(1))
	for range 300 {
		l := slices.Clone(want)
		r.Shuffle(len(l), func(i, j int) { l[i], l[j] = l[j], l[i] })
		x := puts(t, l...)
		stands(t, x, want...)
		for _, owner := range []int{0, 1, 2, 7} {
			var of []api.Prefix
			for _, row := range want {
				if row.Owner == owner {
					of = append(of, row.Prefix)
				}
			}
			has(t, x, owner, of...)
		}
	}
}

// sibling tells p with another last bit of its address.
func sibling(p api.Prefix) api.Prefix {
	p.Addr = bytes.Clone(p.Addr)
	p.Addr[len(p.Addr)-1] ^= 1
	return p
}

// P8.1: Form of what isn't right, ahead of Arg of an owner below 0; what is refused changes nothing.
func TestWrong(t *testing.T) {
	l := []Row{{prefix(0, 0, 0, 0, 0), 1}, {prefix(24, 10, 0, 0, 0), 2}, {zeros(0), 1}, {zeros(128), 3}}
	x := puts(t, l...)
	same := func() {
		t.Helper()
		stands(t, x, l...)
		owned(t, x, 2, 10, 0, 0, 9)
		owned(t, x, 1, 10, 0, 1, 9)
		owned(t, x, 3, make([]byte, 16)...)
	}
	for _, p := range wrong() {
		for _, owner := range []int{0, 1, math.MaxInt, -1, math.MinInt} {
			if e := x.Put(p, owner); e != api.Form {
				t.Errorf("Put(%v, %d) = %d", p, owner, e)
			}
		}
		if x.Del(p) {
			t.Errorf("Del(%v)", p)
		}
		same()
	}
	for _, p := range []api.Prefix{prefix(24, 10, 0, 0, 0), prefix(24, 10, 0, 0, 7), prefix(25, 10, 0, 0, 0), prefix(8, 10, 0, 0, 0), prefix(0, 0, 0, 0, 0), zeros(0), zeros(128), zeros(64)} {
		for _, owner := range []int{-1, -2, math.MinInt32, math.MinInt} {
			if e := x.Put(p, owner); e != api.Arg {
				t.Errorf("Put(%v, %d) = %d", p, owner, e)
			}
			same()
		}
	}
	for _, owner := range []int{-1, -2, math.MinInt} {
		has(t, x, owner)
		if n := x.Drop(owner); n != 0 {
			t.Errorf("Drop(%d) = %d", owner, n)
		}
		same()
	}
}

// P8.1: addresses of other lengths have no owner.
func TestNoAddress(t *testing.T) {
	x := puts(t, Row{prefix(0, 0, 0, 0, 0), 1}, Row{zeros(0), 2}, Row{prefix(32, 0, 0, 0, 0), 3}, Row{zeros(128), 4})
	owned(t, x, -1)
	owned(t, x, -1, []byte{}...)
	for n := range 300 {
		if n != 4 && n != 16 {
			owned(t, x, -1, make([]byte, n)...)
			owned(t, x, -1, bytes.Repeat([]byte{255}, n)...)
		}
	}
	if n, ok := x.Owner(nil); n != 0 || ok {
		t.Errorf("Owner of nil = %d, %t", n, ok)
	}
}

// P8.1, P8.2: every call on a nil table; Nil comes first.
func TestNil(t *testing.T) {
	var x *Table
	for _, p := range append(wrong(), prefix(24, 10, 0, 0, 0), zeros(0)) {
		for _, owner := range []int{0, 1, -1} {
			if e := x.Put(p, owner); e != api.Nil {
				t.Errorf("Put(%v, %d) = %d", p, owner, e)
			}
		}
		if x.Del(p) {
			t.Errorf("Del(%v)", p)
		}
		owned(t, x, -1, p.Addr...)
	}
	for _, owner := range []int{0, 1, -1} {
		if n := x.Drop(owner); n != 0 {
			t.Errorf("Drop(%d) = %d", owner, n)
		}
		has(t, x, owner)
	}
	stands(t, x)
}

// R4: what is handed in stays as it is, and isn't kept where it could be changed from outside.
func TestHandedIn(t *testing.T) {
	for _, bits := range []int{0, 13, 24, 32} {
		room := []byte{10, 0, 0, 7, 1, 2, 3, 4}
		p := api.Prefix{Addr: room[:4], Bits: bits}
		x := newBoth()
		x.put(t, p, 3)
		x.put(t, api.Prefix{Addr: room[1:5], Bits: bits}, 4)
		x.put(t, api.Prefix{Addr: room[4:], Bits: 8}, 5)
		x.t.Owner(room[:4])
		x.t.Del(api.Prefix{Addr: room[2:6], Bits: 31})
		if !bytes.Equal(room, []byte{10, 0, 0, 7, 1, 2, 3, 4}) || len(p.Addr) != 4 || p.Bits != bits {
			t.Errorf("of %d bits: %v", bits, room)
		}
		copy(room, []byte{255, 254, 253, 252, 251, 250, 249, 248})
		x.whole(t)
	}
	a := bytes.Clone(zeros(0, 0xfd).Addr)
	x := puts(t, Row{api.Prefix{Addr: a, Bits: 128}, 1})
	clear(a)
	stands(t, x, Row{zeros(128, 0xfd), 1})
	owned(t, x, -1, a...)
}

// R4: what is told is the caller's, and no two lists of it share memory.
func TestTold(t *testing.T) {
	x := newBoth()
	for i, p := range []api.Prefix{prefix(8, 10, 0, 0, 0), prefix(24, 10, 0, 0, 0), prefix(32, 10, 0, 0, 9), zeros(64, 0xfd), zeros(128, 0xfd)} {
		x.put(t, p, i%2)
	}
	rows, of := x.t.Rows(), x.t.Of(0)
	for i := range rows {
		_ = append(rows[i].Prefix.Addr, 9, 9, 9, 9)
		clear(rows[i].Prefix.Addr)
		rows[i] = Row{Owner: 9}
	}
	if !slices.EqualFunc(of, x.m.of(0), samePrefix) {
		t.Errorf("Of = %v, after Rows was changed", of)
	}
	for i := range of {
		clear(of[i].Addr)
		of[i].Bits = 1
	}
	x.whole(t)
	again := x.t.Rows()
	for i := range again {
		a := again[i].Prefix.Addr
		_ = append(a[:0], bytes.Repeat([]byte{0xee}, cap(a))...)
		for j, r := range again {
			if i != j && bytes.Contains(r.Prefix.Addr, []byte{0xee}) {
				t.Fatalf("rows %d and %d share memory", i, j)
			}
		}
		clear(a)
	}
	x.whole(t)
}

// P8.1, P8.2: all sets of the prefixes in a small one, put and taken away in many orders.
func TestSmallSets(t *testing.T) {
	r := rand.New(rand.NewSource(2))
	for _, a := range [][]byte{{10, 0, 0, 252}, append(make([]byte, 15), 0x40)} {
		var all []api.Prefix
		for bits := 8*len(a) - 2; bits <= 8*len(a); bits++ {
			for i := 0; i < 4; i += 1 << (8*len(a) - bits) {
				p := api.Prefix{Addr: bytes.Clone(a), Bits: bits}
				p.Addr[len(a)-1] += byte(i)
				all = append(all, p)
			}
		}
		if len(all) != 7 {
			t.Fatalf("%d prefixes", len(all))
		}
		for set := range 1 << len(all) {
			for range 6 {
				x := newBoth()
				order := r.Perm(len(all))
				for _, i := range order {
					if set>>i&1 == 1 {
						x.put(t, all[i], i)
					}
				}
				x.whole(t)
				r.Shuffle(len(order), func(i, j int) { order[i], order[j] = order[j], order[i] })
				for _, i := range order {
					x.del(t, all[i])
					x.whole(t)
				}
			}
		}
	}
}

// act does something at random with both.
func (x both) act(t *testing.T, r *rand.Rand, some func(r *rand.Rand) api.Prefix) {
	t.Helper()
	p := some(r)
	if n := len(x.m.list); n > 0 && r.Intn(3) == 0 {
		p = x.m.list[r.Intn(n)].plain
		p.Addr = bytes.Clone(p.Addr)
	}
	if r.Intn(3) == 0 {
		a := p.Addr
		a[len(a)-1] ^= byte(r.Intn(4)) // often no plain one any more
	}
	switch r.Intn(20) {
	case 0:
		x.drop(t, r.Intn(12)-1)
	case 1:
		x.put(t, wrong()[r.Intn(len(wrong()))], r.Intn(3)-1)
	case 2:
		x.put(t, p, -1-r.Intn(3))
	case 3, 4, 5, 6, 7, 8:
		x.del(t, p)
	default:
		x.put(t, p, r.Intn(12))
	}
	x.owners(t, p.Addr, some(r).Addr)
	x.owners(t, around(p)...)
}

// P8.1, P8.2: beside the model, over prefixes near each other and far apart, of both sizes.
func TestModel(t *testing.T) {
	r := rand.New(rand.NewSource(3))
	for _, some := range []func(r *rand.Rand) api.Prefix{near, far} {
		for range 20 {
			x := newBoth()
			most := 0
			for i := range 600 {
				x.act(t, r, some)
				most = max(most, len(x.m.list))
				if i%50 == 0 {
					x.whole(t)
				}
			}
			x.whole(t)
			if most < 10 {
				t.Errorf("never more than %d rows", most)
			}
			for _, i := range r.Perm(12) {
				x.drop(t, i)
				x.whole(t)
			}
			stands(t, x.t)
		}
	}
}

// P8.1: many prefixes, and none of them left.
func TestMany(t *testing.T) {
	r := rand.New(rand.NewSource(4))
	x := New()
	owners := map[string]int{}
	for i := range 20000 {
		p := far(r)
		p.Bits = 8 * len(p.Addr)
		owners[string(p.Addr)] = i
		x.Put(p, i)
	}
	for a, i := range owners {
		owned(t, x, i, []byte(a)...)
	}
	if l := x.Rows(); len(l) != len(owners) {
		t.Errorf("%d rows, not %d", len(l), len(owners))
	}
	for a := range owners {
		if !x.Del(api.Prefix{Addr: []byte(a), Bits: 8 * len(a)}) {
			t.Fatalf("Del(%v)", []byte(a))
		}
	}
	stands(t, x)
}

// No more is kept than what stands in the table: prefixes that went, or were refused, leave nothing behind, nor do those in which two of them lay.
func TestNothingIsKept(t *testing.T) {
	r := rand.New(rand.NewSource(5))
	x := puts(t, Row{prefix(0, 0, 0, 0, 0), 1}, Row{zeros(0), 1})
	before := heap()
	for round := range 40 {
		var l []api.Prefix
		for range 2000 {
			p := zeros(128)
			r.Read(p.Addr)
			q := sibling(p)
			x.Put(p, 2)
			x.Put(q, 2)
			x.Put(api.Prefix{Addr: next(q.Addr, 2), Bits: 128}, -1)
			if round%4 < 2 {
				x.Del(p)
			}
			l = append(l, p, q)
		}
		if round%2 == 0 {
			for _, p := range l {
				x.Del(p)
			}
		}
		x.Drop(2)
	}
	if after := heap(); after > before+2<<20 {
		t.Errorf("%d bytes are kept", after-before)
	}
	stands(t, x, Row{prefix(0, 0, 0, 0, 0), 1}, Row{zeros(0), 1})
}

// The same of prefixes that stay: those that lay beside them leave nothing behind.
func TestNothingIsKeptBeside(t *testing.T) {
	r := rand.New(rand.NewSource(6))
	x := New()
	before := heap()
	const rows = 400
	for i := range rows {
		p := zeros(128)
		r.Read(p.Addr)
		x.Put(p, 1)
		for bit := range 128 {
			q := zeros(128, p.Addr...)
			q.Addr[bit/8] ^= 0x80 >> (bit % 8)
			x.Put(q, 2)
			if i%2 == 0 {
				x.Del(q)
			}
		}
		x.Drop(2)
	}
	if after := heap(); after > before+1<<20 {
		t.Errorf("%d bytes are kept", after-before)
	}
	if n := len(x.Rows()); n != rows {
		t.Errorf("%d rows", n)
	}
}

// heap tells how many bytes are in use.
func heap() uint64 {
	runtime.GC()
	runtime.GC()
	var m runtime.MemStats
	runtime.ReadMemStats(&m)
	return m.HeapAlloc
}
