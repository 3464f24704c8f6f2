package ring

import (
	"errors"
	"math"
	"reflect"
	"runtime"
	"slices"
	"testing"
	"weak"

	"snicket/api"
)

// rooms are ordinary ones, and those at the ends.
func rooms() []int {
	return []int{1, 2, 3, 4, 5, 7, 8, 15, 16, 17, 32, 63, 100, 1000, greatest - 1, greatest}
}

// counts are how many things a ring of that room has at its edges.
func counts(room int) []int {
	l := []int{0, 1, room / 2, room - 1, room}
	slices.Sort(l)
	return slices.Compact(l)
}

// edges tells both of each room, with as many things as its edges have, laid from several places on.
func edges(t *testing.T, do func(x *both)) {
	t.Helper()
	for _, room := range rooms() {
		for _, n := range counts(room) {
			for _, at := range counts(room) {
				x := newBoth(t, room)
				x.turn(t, at)
				x.fill(t, n)
				do(x)
				x.whole(t)
			}
		}
	}
}

// holds holds a ring against what is written out.
func holds[T any](t *testing.T, r *Ring[T], want ...T) {
	t.Helper()
	if l := r.All(); len(l)+len(want) > 0 && !reflect.DeepEqual(l, want) {
		t.Errorf("All = %#v, not %#v", l, want)
	}
	if n := r.Len(); n != len(want) {
		t.Errorf("Len = %d, not %d", n, len(want))
	}
}

// told holds a thing and a bool against what is written out.
func told[T any](t *testing.T, one T, ok bool, want T, b bool) {
	t.Helper()
	if !reflect.DeepEqual(one, want) || ok != b {
		t.Errorf("%#v, %t, not %#v, %t", one, ok, want, b)
	}
}

// pushed holds Push against what is written out.
func pushed[T any](t *testing.T, r *Ring[T], x, want T, b bool) {
	t.Helper()
	gone, full := r.Push(x)
	told(t, gone, full, want, b)
}

// popped and backed hold Pop and Back against what is written out.
func popped[T any](t *testing.T, r *Ring[T], want T, b bool) {
	t.Helper()
	one, ok := r.Pop()
	told(t, one, ok, want, b)
}

func backed[T any](t *testing.T, r *Ring[T], want T, b bool) {
	t.Helper()
	one, ok := r.Back()
	told(t, one, ok, want, b)
}

// cleared holds Clear against what is written out.
func cleared[T any](t *testing.T, r *Ring[T], want int) {
	t.Helper()
	if n := r.Clear(); n != want {
		t.Errorf("Clear = %d, not %d", n, want)
	}
	holds(t, r)
}

// P9.1, P9.2: the chapter's example.
func TestExample(t *testing.T) {
	r := newRing[int](t, 2)
	pushed(t, r, 1, 0, false)
	pushed(t, r, 2, 0, false)
	pushed(t, r, 3, 1, true)
	holds(t, r, 2, 3)
	popped(t, r, 2, true)
	popped(t, r, 3, true)
	popped(t, r, 0, false)
}

// P9.1, P9.2: a new ring has no things, whatever its room.
func TestNew(t *testing.T) {
	for room := 1; room <= greatest && !t.Failed(); room++ {
		r := newRing[int](t, room)
		if n := r.Room(); n != room {
			t.Errorf("Room = %d, not %d", n, room)
		}
		holds(t, r)
		popped(t, r, 0, false)
		backed(t, r, 0, false)
		cleared(t, r, 0)
		pushed(t, r, 7, 0, false)
		holds(t, r, 7)
	}
}

// isArg holds New of a room against no ring and Arg.
func isArg[T any](t *testing.T, room int) {
	t.Helper()
	if r, e := New[T](room); r != nil || e != api.Arg {
		t.Errorf("New(%d) = %v, %d", room, r, e)
	}
}

// P9.1: rooms that can't be.
func TestWrongRooms(t *testing.T) {
	l := []int{math.MinInt, math.MinInt + 1, -1 << 32, 1 - 1<<32, math.MinInt32, 1 << 16, 1<<16 + 1, math.MaxInt32, 1 << 32, 1<<32 + 1, 1<<32 + greatest, math.MaxInt - 1, math.MaxInt}
	for i := range 3 * greatest {
		l = append(l, -i, greatest+1+i)
	}
	for _, room := range l {
		isArg[int](t, room)
		isArg[string](t, room)
		isArg[[]byte](t, room)
		isArg[struct{}](t, room)
	}
}

// P9.1: Push on each edge, until the ring has gone round three times: the first one goes each time when there are as many as the room.
func TestPush(t *testing.T) {
	edges(t, func(x *both) {
		for i := range 3*x.m.room + 2 {
			x.push(t)
			if x.m.room < 50 || i%(x.m.room/2) == 0 {
				x.whole(t)
			}
		}
	})
}

// P9.1: a room of 1 has the last one alone.
func TestRoomOfOne(t *testing.T) {
	r := newRing[string](t, 1)
	pushed(t, r, "a", "", false)
	holds(t, r, "a")
	pushed(t, r, "b", "a", true)
	holds(t, r, "b")
	pushed(t, r, "", "b", true)
	holds(t, r, "")
	backed(t, r, "", true)
	backed(t, r, "", false)
	pushed(t, r, "c", "", false)
	popped(t, r, "c", true)
	popped(t, r, "", false)
	pushed(t, r, "d", "", false)
	cleared(t, r, 1)
	pushed(t, r, "e", "", false)
	holds(t, r, "e")
}

// P9.1: the greatest room, written out.
func TestGreatestRoom(t *testing.T) {
	r := newRing[int](t, 4096)
	for i := range 4096 {
		pushed(t, r, i, 0, false)
	}
	for i := range 4096 {
		pushed(t, r, 4096+i, i, true)
	}
	for i := range 2048 {
		popped(t, r, 4096+i, true)
		backed(t, r, 8191-i, true)
	}
	popped(t, r, 0, false)
	backed(t, r, 0, false)
	holds(t, r)
}

// P9.1, P9.2: Pop and Back by turns, alone, and in several measures, until nothing is left, and after that.
func TestPopAndBack(t *testing.T) {
	for _, turns := range [][2]int{{1, 1}, {1, 0}, {0, 1}, {1, 3}, {2, 1}} {
		edges(t, func(x *both) { x.empty(t, turns[0], turns[1]) })
	}
}

// empty takes so many from each end by turns, until nothing is left, and after that; then it fills both again.
func (x *both) empty(t *testing.T, pops, backs int) {
	for x.r.Len() > 0 {
		for range pops {
			x.pop(t)
		}
		for range backs {
			x.back(t)
		}
		if x.m.room < 50 {
			x.whole(t)
		}
	}
	for range 3 {
		x.pop(t)
		x.back(t)
		x.whole(t)
	}
	x.fill(t, x.m.room)
	x.push(t)
}

// P9.1, P9.2: Push behind Pop, behind Back, behind both and behind Clear: what went makes room.
func TestPushBehind(t *testing.T) {
	for _, acts := range [][]int{{1}, {2}, {3}, {1, 1}, {2, 2}, {1, 2}, {2, 1}, {3, 3}, {1, 3}, {2, 3}, {3, 1}, {3, 2}} {
		edges(t, func(x *both) {
			for range 3 {
				for _, number := range acts {
					x.act(t, number)
				}
				x.whole(t)
				for range len(acts) + 1 {
					x.push(t)
				}
				x.whole(t)
			}
		})
	}
}

// P9.2: Clear, twice; then the ring is as a new one, and keeps its room.
func TestClear(t *testing.T) {
	edges(t, func(x *both) {
		n := len(x.m.list)
		cleared(t, x.r, n)
		cleared(t, x.r, 0)
		popped(t, x.r, 0, false)
		backed(t, x.r, 0, false)
		x.m.clear()
		for range 2 * x.m.room {
			x.push(t)
		}
		x.whole(t)
		cleared(t, x.r, x.m.room)
		cleared(t, x.r, 0)
		x.m.clear()
	})
}

// kind goes through a ring of three of a kind's things, of which the first one is the zero value.
func kind[T any](t *testing.T, a, b, c T) {
	t.Helper()
	zero := *new(T)
	told(t, a, true, zero, true)
	r := newRing[T](t, 3)
	popped(t, r, zero, false)
	backed(t, r, zero, false)
	pushed(t, r, b, zero, false)
	pushed(t, r, a, zero, false)
	pushed(t, r, c, zero, false)
	holds(t, r, b, a, c)
	pushed(t, r, a, b, true)
	pushed(t, r, b, a, true)
	holds(t, r, c, a, b)
	popped(t, r, c, true)
	popped(t, r, a, true)
	pushed(t, r, a, zero, false)
	backed(t, r, a, true)
	backed(t, r, b, true)
	popped(t, r, zero, false)
	backed(t, r, zero, false)
	pushed(t, r, c, zero, false)
	pushed(t, r, a, zero, false)
	cleared(t, r, 2)
	popped(t, r, zero, false)
	backed(t, r, zero, false)
	pushed(t, r, a, zero, false)
	holds(t, r, a)
	popped(t, r, a, true)
	popped(t, r, zero, false)
}

// P9.1, P9.2: a false comes with the zero value, of types of several kinds; a thing that is the zero value itself comes with true.
func TestKinds(t *testing.T) {
	n, text := 7, "x"
	kind(t, 0, 1, math.MinInt)
	kind[uint64](t, 0, 1, math.MaxUint64)
	kind[byte](t, 0, 7, 255)
	kind(t, 0.0, 0.5, math.Inf(1))
	kind(t, 0i, 1i, 2)
	kind(t, false, true, true)
	kind(t, "", "a", "\xff\x00")
	kind(t, nil, []byte{1, 2}, []byte{})
	kind(t, nil, []string{"a"}, []string{""})
	kind(t, nil, &n, new(int))
	kind(t, nil, &text, new(string))
	kind(t, struct{}{}, struct{}{}, struct{}{})
	kind(t, api.Message{}, api.Message{Kind: api.Transport, Data: "0"}, api.Message{Counter: 1})
	kind(t, api.Prefix{}, api.Prefix{Addr: []byte{10, 0, 0, 0}, Bits: 8}, api.Prefix{Bits: -1})
	kind(t, [3]int{}, [3]int{1, 2, 3}, [3]int{0, 0, 1})
	kind(t, nil, map[string]int{"a": 1}, map[string]int{})
	kind(t, nil, any(1), any("a"))
	kind(t, nil, errors.New("a"), errors.New("b"))
	kind(t, nil, newRing[int](t, 1), newRing[int](t, 2))
}

// P9.1: a pointer and a list come out as the ones that went in.
func TestSame(t *testing.T) {
	r := newRing[*int](t, 2)
	one, two, three := new(int), new(int), new(int)
	r.Push(one)
	r.Push(two)
	if gone, _ := r.Push(three); gone != one {
		t.Error("Push tells another one")
	}
	if x, _ := r.Pop(); x != two {
		t.Error("Pop tells another one")
	}
	if l := r.All(); len(l) != 1 || l[0] != three {
		t.Error("All tells another one")
	}
	if x, _ := r.Back(); x != three {
		t.Error("Back tells another one")
	}
	lists := newRing[[]int](t, 1)
	l := []int{1, 2, 3}
	lists.Push(l[:1])
	if x, _ := lists.Pop(); cap(x) != cap(l) || &x[0] != &l[0] {
		t.Error("Pop tells another list")
	}
}

// P9.2: changing what All told changes nothing in the ring, and nothing that the ring does later changes it.
func TestAllIsTheCallers(t *testing.T) {
	edges(t, func(x *both) {
		l, other := x.r.All(), x.r.All()
		for i := range l {
			l[i] = -1
		}
		l = append(l, -2)
		if !slices.Equal(other, x.m.list) {
			t.Fatalf("room %d: two lists that All told share", x.m.room)
		}
		x.whole(t)
		was := slices.Clone(x.m.list)
		for i := range x.m.room + 1 {
			x.push(t)
			if i%3 == 2 {
				x.pop(t)
				x.back(t)
			}
		}
		x.clear(t)
		x.fill(t, x.m.room)
		if !slices.Equal(other, was) {
			t.Fatalf("room %d: what All told is %v by now, and was %v", x.m.room, other, was)
		}
		if len(l) != len(was)+1 || slices.ContainsFunc(l, func(n int) bool { return n >= 0 }) {
			t.Fatalf("room %d: the ring laid its things into what All told: %v", x.m.room, l)
		}
	})
}

// P9.2: what stands behind the end of what All told isn't the ring's either.
func TestBehindAll(t *testing.T) {
	for _, n := range []int{0, 1, 5, 7, 8} {
		x := newBoth(t, 8)
		x.turn(t, 3)
		x.fill(t, n)
		l := x.r.All()
		for i := range l[:cap(l)] {
			l[:cap(l)][i] = -1
		}
		x.whole(t)
		x.fill(t, 8)
		x.push(t)
		x.whole(t)
	}
}

// R4: telling things changes nothing.
func TestTellingChangesNothing(t *testing.T) {
	edges(t, func(x *both) {
		for range 3 {
			x.whole(t)
		}
	})
}

// P9.1, P9.2: two rings don't share anything, whatever is done with one of them.
func TestTwoRings(t *testing.T) {
	for _, room := range rooms() {
		x, y := newBoth(t, room), newBoth(t, room)
		y.last = 1 << 20
		for i := range 2*room + 9 {
			x.act(t, i%7/3)
			y.act(t, i%5/3)
			if room < 50 || i%room == 0 {
				x.whole(t)
				y.whole(t)
			}
		}
		x.clear(t)
		y.whole(t)
		x.fill(t, room)
		y.clear(t)
		x.whole(t)
		y.whole(t)
	}
}

// nobody goes through all calls on a ring in which nothing can be.
func nobody[T any](t *testing.T, r *Ring[T], x T) {
	t.Helper()
	zero := *new(T)
	for range 3 {
		popped(t, r, zero, false)
		backed(t, r, zero, false)
		if n := r.Room(); n != 0 {
			t.Errorf("Room = %d", n)
		}
		cleared(t, r, 0)
		pushed(t, r, x, zero, false)
		holds(t, r)
		pushed(t, r, zero, zero, false)
		holds(t, r)
	}
}

// P9.1, P9.2: a nil ring, of several types.
func TestNil(t *testing.T) {
	nobody(t, nil, 7)
	nobody(t, nil, "x")
	nobody(t, nil, []byte{1})
	nobody(t, nil, new(int))
	nobody(t, nil, api.Message{Kind: api.Init})
	var r *Ring[int]
	nobody(t, r, 7)
	if r != nil {
		t.Error("it is there")
	}
}

// R1: a ring that no New has made has no room, and keeps nothing.
func TestNoNew(t *testing.T) {
	nobody(t, &Ring[int]{}, 7)
	nobody(t, new(Ring[string]), "x")
	nobody(t, &Ring[[]byte]{}, []byte{1})
	nobody(t, &Ring[*int]{}, new(int))
	nobody(t, &Ring[api.Message]{}, api.Message{Kind: api.Init})
	var r Ring[int]
	nobody(t, &r, 7)
}

// big is a thing that has memory of its own.
type big [128]int

// watched pushes another big thing, and tells a pointer that doesn't hold it.
func watched(r *Ring[*big]) weak.Pointer[big] {
	x := new(big)
	r.Push(x)
	return weak.Make(x)
}

// R6, P9.1, P9.2: what went is kept no longer, and what is there is kept.
func TestNothingIsKept(t *testing.T) {
	for name, act := range map[string]func(r *Ring[*big]){
		"Push":  func(r *Ring[*big]) { pushes(r, 4) },
		"Pop":   func(r *Ring[*big]) { times(4, r.Pop) },
		"Back":  func(r *Ring[*big]) { times(4, r.Back) },
		"Clear": func(r *Ring[*big]) { r.Clear() },
	} {
		r := newRing[*big](t, 4)
		var l []weak.Pointer[big]
		for range 6 {
			l = append(l, watched(r))
		}
		runtime.GC()
		if left := alive(l); left != 4 {
			t.Errorf("of 4 there are %d", left)
		}
		act(r)
		runtime.GC()
		if left := alive(l); left != 0 {
			t.Errorf("%s: %d are kept", name, left)
		}
		runtime.KeepAlive(r)
	}
}

// pushes lays so many nils into r.
func pushes(r *Ring[*big], n int) {
	for range n {
		r.Push(nil)
	}
}

// times does something so many times.
func times(n int, do func() (*big, bool)) {
	for range n {
		do()
	}
}

// alive counts what is there yet.
func alive(l []weak.Pointer[big]) int {
	n := 0
	for _, p := range l {
		if p.Value() != nil {
			n++
		}
	}
	return n
}

// R1: a great room of great things takes no more than a few of them need.
func TestGreatThings(t *testing.T) {
	type great [1 << 20]byte
	var before, after runtime.MemStats
	runtime.ReadMemStats(&before)
	r := newRing[*Ring[great]](t, 3)
	for range 3 {
		one := newRing[great](t, greatest)
		for range 3 {
			one.Push(great{1})
		}
		r.Push(one)
	}
	runtime.ReadMemStats(&after)
	if n := after.TotalAlloc - before.TotalAlloc; n > 1<<28 {
		t.Errorf("%d bytes for 9 things", n)
	}
	for _, one := range r.All() {
		if x, ok := one.Pop(); x[0] != 1 || !ok || one.Len() != 2 {
			t.Error("a great thing isn't there")
		}
	}
}
