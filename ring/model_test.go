package ring

import (
	"math/rand"
	"slices"
	"testing"

	"snicket/api"
)

// The document's greatest room, written out.
const greatest = 4096

// model is a list.
type model struct {
	room int
	list []int
}

// push does what Push should do.
func (m *model) push(x int) (int, bool) {
	m.list = append(m.list, x)
	if len(m.list) <= m.room {
		return 0, false
	}
	return m.pop()
}

// pop does what Pop should do.
func (m *model) pop() (int, bool) {
	if len(m.list) == 0 {
		return 0, false
	}
	x := m.list[0]
	m.list = m.list[1:]
	return x, true
}

// back does what Back should do.
func (m *model) back() (int, bool) {
	n := len(m.list)
	if n == 0 {
		return 0, false
	}
	x := m.list[n-1]
	m.list = m.list[:n-1]
	return x, true
}

// clear does what Clear should do.
func (m *model) clear() int {
	n := len(m.list)
	m.list = nil
	return n
}

// both are a ring and its model, and the last number that was pushed. Their methods aren't t's helpers: that takes ten times as long as all they do.
type both struct {
	r    *Ring[int]
	m    *model
	last int
}

// newBoth tells both without things.
func newBoth(t *testing.T, room int) *both {
	t.Helper()
	return &both{r: newRing[int](t, room), m: &model{room: room}}
}

// newRing tells a ring of a room that can be.
func newRing[T any](t *testing.T, room int) *Ring[T] {
	t.Helper()
	r, e := New[T](room)
	if r == nil || e != api.Fine {
		t.Fatalf("New(%d) = %v, %d", room, r, e)
	}
	return r
}

// push, pop, back and clear do the same with both, and hold what is told against each other. What is pushed is another number each time.
func (x *both) push(t *testing.T) {
	x.last++
	gone, full := x.r.Push(x.last)
	want, b := x.m.push(x.last)
	x.same(t, "Push", gone, full, want, b)
}

func (x *both) pop(t *testing.T) {
	one, ok := x.r.Pop()
	want, b := x.m.pop()
	x.same(t, "Pop", one, ok, want, b)
}

func (x *both) back(t *testing.T) {
	one, ok := x.r.Back()
	want, b := x.m.back()
	x.same(t, "Back", one, ok, want, b)
}

func (x *both) clear(t *testing.T) {
	if n, want := x.r.Clear(), x.m.clear(); n != want {
		t.Fatalf("room %d: Clear = %d, not %d", x.m.room, n, want)
	}
	x.counts(t)
}

// same holds one answer against the other, and what can be told quickly behind it.
func (x *both) same(t *testing.T, act string, one int, ok bool, want int, b bool) {
	if one != want || ok != b {
		t.Fatalf("room %d: %s = %d, %t, not %d, %t; left are %v", x.m.room, act, one, ok, want, b, x.m.list)
	}
	x.counts(t)
}

// counts holds Len and Room against the model.
func (x *both) counts(t *testing.T) {
	if n := x.r.Len(); n != len(x.m.list) {
		t.Fatalf("room %d: Len = %d, not %d", x.m.room, n, len(x.m.list))
	}
	if n := x.r.Room(); n != x.m.room {
		t.Fatalf("Room = %d, not %d", n, x.m.room)
	}
}

// whole holds everything that can be told against the model.
func (x *both) whole(t *testing.T) {
	x.counts(t)
	if l := x.r.All(); !slices.Equal(l, x.m.list) {
		t.Fatalf("room %d: All = %v, not %v", x.m.room, l, x.m.list)
	}
}

// fill pushes until there are so many.
func (x *both) fill(t *testing.T, n int) {
	for x.r.Len() < n {
		x.push(t)
	}
	x.whole(t)
}

// turn goes so many places round without things.
func (x *both) turn(t *testing.T, n int) {
	for range n {
		x.push(t)
		x.pop(t)
	}
	x.whole(t)
}

// act does what its number says.
func (x *both) act(t *testing.T, number int) {
	switch number {
	case 0:
		x.push(t)
	case 1:
		x.pop(t)
	case 2:
		x.back(t)
	default:
		x.clear(t)
	}
}

// P9.1, P9.2: all rows of acts, in small rooms.
func TestAllActs(t *testing.T) {
	const long = 8
	for room := 1; room <= 4; room++ {
		for row := range 1 << (2 * long) {
			x := newBoth(t, room)
			for left := row; left > 0; left /= 4 {
				x.act(t, left%4)
				x.whole(t)
			}
		}
	}
}

// P9.1, P9.2: acts at random beside a list: by turns it rather fills, stays as it is, and empties.
func TestModel(t *testing.T) {
	r := rand.New(rand.NewSource(9))
	for _, room := range []int{1, 2, 3, 4, 5, 7, 8, 9, 16, 31, 32, 33, 100, 1000, 2047, 2048, greatest - 1, greatest} {
		x := newBoth(t, room)
		for range 30 {
			pushes := r.Intn(11)
			for range r.Intn(room) + 20 {
				x.random(t, r, pushes)
				if room < 50 || r.Intn(room) < 5 {
					x.whole(t)
				}
			}
			x.whole(t)
		}
	}
}

// random does an act at random: of ten of them so many are pushes.
func (x *both) random(t *testing.T, r *rand.Rand, pushes int) {
	switch n := r.Intn(10); {
	case r.Intn(4*x.m.room) == 0:
		x.clear(t)
	case n < pushes:
		x.push(t)
	case r.Intn(2) == 0:
		x.pop(t)
	default:
		x.back(t)
	}
}
