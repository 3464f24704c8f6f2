package trie

import (
	"bytes"
	"cmp"
	"fmt"
	"math"
	"math/rand"
	"slices"
	"strconv"
	"strings"
	"testing"

	"snicket/api"
)

// modelRow is a plain prefix, its first bits, written out, and its owner.
type modelRow struct {
	plain api.Prefix
	bits  string
	owner int
}

// model is a list of rows.
type model struct {
	list []modelRow
}

// bitsOf writes all bits out, the highest one of the first byte first.
func bitsOf(a []byte) string {
	var b strings.Builder
	for _, x := range a {
		fmt.Fprintf(&b, "%08b", x)
	}
	return b.String()
}

// ofBits tells the plain prefix of addresses of so many bytes that begin with these bits.
func ofBits(size int, bits string) api.Prefix {
	all := bits + strings.Repeat("0", 8*size-len(bits))
	var a []byte
	for i := 0; i < len(all); i += 8 {
		x, err := strconv.ParseUint(all[i:i+8], 2, 8)
		if err != nil {
			panic(err)
		}
		a = append(a, byte(x))
	}
	return api.Prefix{Addr: a, Bits: len(bits)}
}

// modelRight tells whether p is right.
func modelRight(p api.Prefix) bool {
	return p.Bits >= 0 && (len(p.Addr) == 4 && p.Bits <= 32 || len(p.Addr) == 16 && p.Bits <= 128)
}

// find tells the place of p's row, or -1.
func (m *model) find(p api.Prefix) int {
	if !modelRight(p) {
		return -1
	}
	bits := bitsOf(p.Addr)[:p.Bits]
	return slices.IndexFunc(m.list, func(r modelRow) bool {
		return len(r.plain.Addr) == len(p.Addr) && r.bits == bits
	})
}

// put does what Put should do.
func (m *model) put(p api.Prefix, owner int) api.Code {
	if !modelRight(p) {
		return api.Form
	}
	if owner < 0 {
		return api.Arg
	}
	if i := m.find(p); i >= 0 {
		m.list[i].owner = owner
	} else {
		bits := bitsOf(p.Addr)[:p.Bits]
		m.list = append(m.list, modelRow{ofBits(len(p.Addr), bits), bits, owner})
	}
	return api.Fine
}

// del does what Del should do.
func (m *model) del(p api.Prefix) bool {
	i := m.find(p)
	if i < 0 {
		return false
	}
	m.list = slices.Delete(m.list, i, i+1)
	return true
}

// drop does what Drop should do.
func (m *model) drop(owner int) int {
	n := len(m.list)
	m.list = slices.DeleteFunc(m.list, func(r modelRow) bool { return r.owner == owner })
	return n - len(m.list)
}

// owner tells what Owner should tell.
func (m *model) owner(a []byte) (int, bool) {
	best, owner := -1, 0
	bits := bitsOf(a)
	for _, r := range m.list {
		if len(r.plain.Addr) == len(a) && strings.HasPrefix(bits, r.bits) && len(r.bits) > best {
			best, owner = len(r.bits), r.owner
		}
	}
	return owner, best >= 0
}

// rows tells what Rows should tell.
func (m *model) rows() []Row {
	l := slices.Clone(m.list)
	slices.SortFunc(l, func(x, y modelRow) int {
		return cmp.Or(len(x.plain.Addr)-len(y.plain.Addr), bytes.Compare(x.plain.Addr, y.plain.Addr), x.plain.Bits-y.plain.Bits)
	})
	var out []Row
	for _, r := range l {
		out = append(out, Row{r.plain, r.owner})
	}
	return out
}

// of tells what Of should tell.
func (m *model) of(owner int) []api.Prefix {
	var out []api.Prefix
	for _, r := range m.rows() {
		if r.Owner == owner {
			out = append(out, r.Prefix)
		}
	}
	return out
}

// samePrefix, sameRow: held against each other.
func samePrefix(p, q api.Prefix) bool {
	return bytes.Equal(p.Addr, q.Addr) && p.Bits == q.Bits
}

func sameRow(x, y Row) bool {
	return samePrefix(x.Prefix, y.Prefix) && x.Owner == y.Owner
}

// both are a table and its model.
type both struct {
	t *Table
	m *model
}

func newBoth() both {
	return both{New(), &model{}}
}

// put, del and drop do the same with both, and hold what is told against each other.
func (x both) put(t *testing.T, p api.Prefix, owner int) {
	t.Helper()
	if e, want := x.t.Put(p, owner), x.m.put(p, owner); e != want {
		t.Fatalf("Put(%v, %d) = %d, not %d", p, owner, e, want)
	}
}

func (x both) del(t *testing.T, p api.Prefix) {
	t.Helper()
	if ok, want := x.t.Del(p), x.m.del(p); ok != want {
		t.Fatalf("Del(%v) = %t", p, ok)
	}
}

func (x both) drop(t *testing.T, owner int) {
	t.Helper()
	if n, want := x.t.Drop(owner), x.m.drop(owner); n != want {
		t.Fatalf("Drop(%d) = %d, not %d", owner, n, want)
	}
}

// owners holds Owner of each address against the model.
func (x both) owners(t *testing.T, l ...[]byte) {
	t.Helper()
	for _, a := range l {
		n, ok := x.t.Owner(a)
		if want, b := x.m.owner(a); n != want || ok != b {
			t.Fatalf("Owner(%v) = %d, %t, not %d, %t; rows %v", a, n, ok, want, b, x.m.rows())
		}
	}
}

// lists holds Rows, and Of all owners around, against the model.
func (x both) lists(t *testing.T) {
	t.Helper()
	if l, want := x.t.Rows(), x.m.rows(); !slices.EqualFunc(l, want, sameRow) {
		t.Fatalf("Rows = %v, not %v", l, want)
	}
	owners := []int{math.MinInt, -1, 0, 1, math.MaxInt}
	for _, r := range x.m.list {
		if !slices.Contains(owners, r.owner) {
			owners = append(owners, r.owner)
		}
	}
	for _, o := range owners {
		if l, want := x.t.Of(o), x.m.of(o); !slices.EqualFunc(l, want, samePrefix) {
			t.Fatalf("Of(%d) = %v, not %v", o, l, want)
		}
	}
}

// whole holds everything that can be told against the model: of addresses those at the ends of all prefixes, and just outside of them.
func (x both) whole(t *testing.T) {
	t.Helper()
	x.lists(t)
	for _, r := range x.m.list {
		x.owners(t, around(r.plain)...)
	}
	x.owners(t, around(prefix(0, 0, 0, 0, 0))...)
	x.owners(t, around(zeros(0))...)
}

// prefix tells one of that address.
func prefix(bits int, a ...byte) api.Prefix {
	return api.Prefix{Addr: a, Bits: bits}
}

// zeros tells a plain prefix of 16 bytes, all 0 but the first ones.
func zeros(bits int, first ...byte) api.Prefix {
	return api.Prefix{Addr: append(slices.Clone(first), make([]byte, 16-len(first))...), Bits: bits}
}

// around tells the first and the last address of a plain prefix, and the next ones outside of it (of all addresses, around the end).
func around(p api.Prefix) [][]byte {
	first, last := bytes.Clone(p.Addr), bytes.Clone(p.Addr)
	for i := p.Bits; i < 8*len(last); i++ {
		last[i/8] |= 0x80 >> (i % 8)
	}
	return [][]byte{first, last, next(first, 255), next(last, 1)}
}

// next tells the address behind a, of a step of 1, or the one ahead of it, of 255.
func next(a []byte, step byte) []byte {
	b := bytes.Clone(a)
	for i := len(b) - 1; i >= 0; i-- {
		b[i] += step
		if b[i] != step-1 {
			return b // nothing is carried
		}
	}
	return b
}

// far tells a prefix at random, of any address.
func far(r *rand.Rand) api.Prefix {
	a := make([]byte, 4+12*r.Intn(2))
	r.Read(a)
	return api.Prefix{Addr: a, Bits: r.Intn(8*len(a) + 1)}
}

// near tells a prefix at random that shares many bits with others of its kind.
func near(r *rand.Rand) api.Prefix {
	a := []byte{10, 0, 0, 0}
	if r.Intn(2) == 0 {
		a = append(make([]byte, 12), a...)
	}
	for range r.Intn(3) {
		i := 8*len(a) - 1 - r.Intn(6)
		if r.Intn(4) == 0 {
			i = r.Intn(8 * len(a))
		}
		a[i/8] ^= 0x80 >> (i % 8)
	}
	bits := 8*len(a) - r.Intn(8)
	if r.Intn(4) == 0 {
		bits = r.Intn(8*len(a) + 1)
	}
	return api.Prefix{Addr: a, Bits: bits}
}

// wrong are prefixes that aren't right, of each kind.
func wrong() []api.Prefix {
	l := []api.Prefix{{}, {Bits: 1}, {Bits: 32}, {Addr: []byte{}}}
	for n := range 40 {
		if n != 4 && n != 16 {
			for _, bits := range []int{0, 1, 8 * n, 32, 128} {
				l = append(l, api.Prefix{Addr: bytes.Repeat([]byte{10}, n), Bits: bits})
			}
		}
	}
	for _, bits := range []int{math.MinInt, math.MinInt64 / 8, -1 << 32, -129, -33, -32, -8, -1, 129, 136, 256, 1 << 16, 1 << 32, 1<<32 + 8, math.MaxInt/8 + 1, math.MaxInt - 7, math.MaxInt} {
		l = append(l, prefix(bits, 10, 0, 0, 0), zeros(bits))
	}
	for bits := 33; bits < 129; bits++ {
		l = append(l, prefix(bits, 10, 0, 0, 0))
	}
	return l
}
