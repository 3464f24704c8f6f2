package window

import (
	"math"
	"math/rand"
	"slices"
	"testing"

	"snicket/api"
)

// takes holds Would and Take of c against a code.
func takes(t *testing.T, w *Window, c uint64, want api.Code) {
	t.Helper()
	if would, e := w.Would(c), w.Take(c); would != want || e != want {
		t.Errorf("Would(%d) = %d, Take = %d, not %d", c, would, e, want)
	}
}

// would holds Would of c against a code.
func would(t *testing.T, w *Window, c uint64, want api.Code) {
	t.Helper()
	if e := w.Would(c); e != want {
		t.Errorf("Would(%d) = %d, not %d", c, e, want)
	}
}

// is holds Top and Missing of a window that took some against what is written out.
func is(t *testing.T, w *Window, top uint64, missing int) {
	t.Helper()
	if c, some := w.Top(); c != top || !some {
		t.Errorf("Top = %d, %v, not %d", c, some, top)
	}
	if n := w.Missing(); n != missing {
		t.Errorf("top %d: Missing = %d, not %d", top, n, missing)
	}
}

// isNew holds w against a window that took none.
func isNew(t *testing.T, w *Window) {
	t.Helper()
	if w == nil {
		t.Fatal("no window")
	}
	if c, some := w.Top(); c != 0 || some {
		t.Errorf("Top of none = %d, %v", c, some)
	}
	if n := w.Missing(); n != 0 {
		t.Errorf("Missing of none = %d", n)
	}
}

// filled tells a window that took all counters from first to last, in order.
func filled(t *testing.T, first, last uint64) *Window {
	t.Helper()
	w := New()
	for c := first; c <= last; c++ {
		if e := w.Take(c); e != api.Fine {
			t.Fatalf("Take(%d) = %d", c, e)
		}
	}
	return w
}

// edges are counters at which something may change, from 0 on to the last one that can be taken.
func edges() []uint64 {
	l := []uint64{0, 1, 2, 62, 63, 64, 65, 2046, 2047, 2048, 2049, 2111, 2112, 2113, 4095, 4096, 4097, 1 << 31, 1<<32 - 1, 1 << 32, 1<<63 - 1, 1 << 63, 1<<64 - 1<<14}
	return append(l, limit-2050, limit-2049, limit-2048, limit-2047, limit-65, limit-64, limit-2, limit-1)
}

// P7.1, P7.2: the chapter's example.
func TestExample(t *testing.T) {
	w := New()
	takes(t, w, 5, api.Fine)
	takes(t, w, 3, api.Fine)
	takes(t, w, 5, api.Stale)
	is(t, w, 5, 4)
	takes(t, w, 2052, api.Fine)
	is(t, w, 2052, 2046) // 5 and 2052 are there, and 3 isn't looked at any more
	takes(t, w, 4, api.Stale)
	takes(t, w, 3, api.Stale)
	takes(t, w, 5, api.Stale)
	takes(t, w, 6, api.Fine)
	is(t, w, 2052, 2045)
}

// P7.1, P7.2: one after the other, each of them twice.
func TestInOrder(t *testing.T) {
	w := New()
	isNew(t, w)
	for c := range uint64(7000) {
		takes(t, w, c, api.Fine)
		is(t, w, c, 0)
		takes(t, w, c, api.Stale)
		is(t, w, c, 0)
	}
	for c := range uint64(7000) {
		takes(t, w, c, api.Stale)
	}
}

// P7.1, P7.2: in any order, as long as none falls out of the window; each of them twice.
func TestOutOfOrder(t *testing.T) {
	r := rand.New(rand.NewSource(1))
	for _, first := range []uint64{0, 1, 63, 64, 1000, 2048, 5001, 1 << 40, limit - wide} {
		l := make([]uint64, wide)
		for i := range l {
			l[i] = first + uint64(i)
		}
		r.Shuffle(wide, func(i, j int) { l[i], l[j] = l[j], l[i] })
		w := New()
		for i, c := range l {
			takes(t, w, c, api.Fine)
			takes(t, w, l[r.Intn(i+1)], api.Stale)
			takes(t, w, c, api.Stale)
			top := slices.Max(l[:i+1])
			is(t, w, top, int(min(top+1, wide))-i-1)
		}
		slices.Reverse(l)
		for _, c := range l {
			takes(t, w, c, api.Stale)
		}
	}
}

// P7.1, P7.2: downwards from the top, to the last one that isn't too old.
func TestDownwards(t *testing.T) {
	w := New()
	for i := range uint64(wide) {
		takes(t, w, 9000-i, api.Fine)
		is(t, w, 9000, wide-1-int(i))
	}
	for i := range uint64(9001) {
		takes(t, w, 9000-i, api.Stale)
	}
	is(t, w, 9000, 0)
}

// P7.1, P7.2: with some left out, which are taken later, if they aren't too old by then; each of them twice.
func TestLeftOut(t *testing.T) {
	w := New()
	for c := range uint64(5000) {
		if c%3 == 1 {
			continue
		}
		takes(t, w, c, api.Fine)
		takes(t, w, c, api.Stale)
		left := 0
		for i := range min(c+1, wide) {
			if (c-i)%3 == 1 {
				left++
			}
		}
		is(t, w, c, left)
	}
	is(t, w, 4998, 682) // from 2953 to 4996, every third one
	for c := range uint64(4998) {
		want := api.Stale
		if c > 4998-wide && c%3 == 1 {
			want = api.Fine
		}
		takes(t, w, c, want)
		takes(t, w, c, api.Stale)
	}
	is(t, w, 4998, 0)
}

// P7.1, P7.2: the first counter of all may be any that is below MaxCount; all that are less than Window below it are then taken, none that are further.
func TestFirst(t *testing.T) {
	for _, c := range edges() {
		w := New()
		takes(t, w, c, api.Fine)
		is(t, w, c, int(min(c, wide-1)))
		takes(t, w, c, api.Stale)
		for i := range uint64(3 * wide) {
			if i == 0 || i > c {
				continue
			}
			want := api.Fine
			if i >= wide {
				want = api.Stale
			}
			takes(t, w, c-i, want)
		}
		is(t, w, c, 0)
	}
}

// P7.1: just inside and just outside of Window below the top, with few others taken, and with many.
func TestWindowEnd(t *testing.T) {
	for _, top := range append(edges(), 3000, 3001, 3071, 3072, 3073, 10_000_000) {
		if top < wide {
			continue
		}
		few := New()
		takes(t, few, top, api.Fine)
		many := filled(t, top-wide+2, top) // all but the last one inside
		upwards := New()
		for c := top - min(top, 3*wide); c <= top; c++ {
			if c != top-wide+1 && c != top-wide {
				takes(t, upwards, c, api.Fine)
			}
		}
		for _, w := range []*Window{few, many, upwards} {
			takes(t, w, top-wide, api.Stale)
			takes(t, w, top-wide+1, api.Fine)
			takes(t, w, top-wide+1, api.Stale)
			takes(t, w, top-wide, api.Stale)
			takes(t, w, top-wide-min(1, top-wide), api.Stale)
			takes(t, w, top-min(top, wide+64), api.Stale)
			takes(t, w, top-min(top, 2*wide), api.Stale)
			takes(t, w, 0, api.Stale)
			takes(t, w, top, api.Stale)
		}
		is(t, few, top, wide-2)
		is(t, many, top, 0)
		is(t, upwards, top, 0)
		if top+1 < limit { // what is just inside falls out by one step
			w := New()
			takes(t, w, top, api.Fine)
			would(t, w, top-wide+1, api.Fine)
			takes(t, w, top+1, api.Fine)
			takes(t, w, top-wide+1, api.Stale)
			takes(t, w, top-wide+2, api.Fine)
		}
	}
}

// jumps are how far one may go up.
func jumps() []uint64 {
	l := []uint64{1, 2, 3, 31, 32, 33, 62, 63, 64, 65, 66, 127, 128, 129, 1000, 1983, 1984, 1985, 2046, 2047, 2048, 2049, 2050, 2111, 2112, 2113, 2175, 2176, 2177}
	return append(l, 4031, 4095, 4096, 4097, 4160, 4161, 6143, 6144, 6145, 8191, 8192, 8193, 1<<16-1, 1<<16, 1<<20, 1<<32-1, 1<<32, 1<<32+1, 1<<63, 1<<63+64)
}

// P7.1, P7.2: jumps from a window of which all were taken: what was skipped can be taken, and what was taken can't.
func TestJumpsFromFull(t *testing.T) {
	for _, from := range []uint64{0, 1, 62, 63, 64, 65, 100, 2046, 2047, 2048, 2049, 2111, 2112, 2113, 6143, 6144, 1<<32 - 1, 1 << 33, 1<<62 + 17} {
		full := filled(t, from-min(from, 2*wide), from)
		is(t, full, from, 0)
		for _, jump := range jumps() {
			w := full.Clone()
			c := from + jump
			takes(t, w, c, api.Fine)
			is(t, w, c, int(min(jump, wide)-1))
			for i := range min(c+1, 3*wide) {
				want := api.Stale
				if i > 0 && i < min(jump, wide) {
					want = api.Fine
				}
				would(t, w, c-i, want)
			}
			for i := range min(c+1, wide) { // and the other way round
				d := c - min(c, wide-1) + i
				want := api.Stale
				if d > from && d < c {
					want = api.Fine
				}
				takes(t, w, d, want)
				takes(t, w, d, api.Stale)
			}
			is(t, w, c, 0)
		}
	}
}

// P7.1, P7.2: jumps from a window that took one alone: that one stays taken, as long as it isn't too old.
func TestJumpsFromOne(t *testing.T) {
	for _, from := range []uint64{0, 1, 63, 64, 65, 1000, 2047, 2048, 2049, 4095, 1 << 40} {
		for _, jump := range jumps() {
			w := New()
			c := from + jump
			takes(t, w, from, api.Fine)
			takes(t, w, c, api.Fine)
			looked, there := int(min(c, wide-1))+1, 2
			if jump >= wide {
				there = 1
			}
			is(t, w, c, looked-there)
			for i := range min(c+1, 3*wide) {
				want := api.Fine
				if i == 0 || i == jump || i >= wide {
					want = api.Stale
				}
				would(t, w, c-i, want)
			}
		}
	}
}

// P7.1, P7.2: many jumps of one size, over and over: of what was kept long ago nothing comes back.
func TestSameJumps(t *testing.T) {
	for _, jump := range jumps() {
		x := newBoth(t, 0)
		for range 130 {
			top, _ := x.m.top()
			if jump > limit-1-top {
				break
			}
			x.take(t, top+jump)
			x.take(t, top)
			x.take(t, top+jump-1)
		}
		x.whole(t)
	}
}

// P7.1: from a window that is full, over all that is kept and far beyond, and there up to the end.
func TestFarAway(t *testing.T) {
	w := filled(t, 0, 3*wide)
	at := uint64(1 << 50)
	takes(t, w, at, api.Fine)
	is(t, w, at, wide-1)
	for i := range uint64(wide) {
		want := api.Fine
		if i == 0 {
			want = api.Stale
		}
		takes(t, w, at-i, want)
	}
	takes(t, w, limit-1, api.Fine)
	is(t, w, limit-1, wide-1)
	for i := range uint64(wide - 1) {
		takes(t, w, limit-wide+i, api.Fine)
	}
	takes(t, w, limit-1, api.Stale)
	is(t, w, limit-1, 0)
}

// P7.1: Limit of MaxCount and more, in a window that took none, few or all; and it changes nothing.
func TestLimit(t *testing.T) {
	if limit != uint64(api.MaxCount) || wide != api.Window {
		t.Fatal("the document's numbers aren't api's")
	}
	above := []uint64{limit, limit + 1, limit + 63, limit + 64, limit + 2048, limit + 1<<13 - 1, limit + 1<<13, math.MaxUint64}
	one := New()
	takes(t, one, limit-1, api.Fine)
	for _, w := range []*Window{New(), filled(t, 0, 0), filled(t, 7, 5000), one, filled(t, limit-3000, limit-1)} {
		before := w.Clone()
		for range 2 { // a second time it isn't Stale
			for _, c := range above {
				takes(t, w, c, api.Limit)
			}
		}
		same(t, w, before)
	}
}

// same holds everything that two windows tell against each other.
func same(t *testing.T, w, v *Window) {
	t.Helper()
	a, some := w.Top()
	b, other := v.Top()
	if a != b || some != other || w.Missing() != v.Missing() {
		t.Fatalf("Top = %d, %v, Missing = %d, not %d, %v, %d", a, some, w.Missing(), b, other, v.Missing())
	}
	for i := range uint64(wide + 200) {
		if c := a + 100 - i; w.Would(c) != v.Would(c) { // around 0, and around the end, too
			t.Fatalf("Would(%d) = %d, not %d", c, w.Would(c), v.Would(c))
		}
	}
}

// P7.1: counters just below MaxCount.
func TestBelowLimit(t *testing.T) {
	w := New()
	takes(t, w, limit-3, api.Fine)
	takes(t, w, limit, api.Limit)
	takes(t, w, limit-1, api.Fine)
	is(t, w, limit-1, wide-2)
	takes(t, w, limit-2, api.Fine)
	takes(t, w, limit-1, api.Stale)
	takes(t, w, limit-2, api.Stale)
	takes(t, w, limit-3, api.Stale)
	takes(t, w, limit-wide, api.Fine)
	takes(t, w, limit-wide-1, api.Stale)
	takes(t, w, 0, api.Stale)
	is(t, w, limit-1, wide-4)
	up := filled(t, limit-5000, limit-1)
	is(t, up, limit-1, 0)
	takes(t, up, limit, api.Limit)
	takes(t, up, limit-1, api.Stale)
}

// P7.1: Would changes nothing, whatever it tells.
func TestWould(t *testing.T) {
	w := New()
	for _, c := range append(edges(), limit, math.MaxUint64) {
		w.Would(c)
		isNew(t, w)
	}
	for _, w := range []*Window{New(), filled(t, 0, 0), filled(t, 5, 5), filled(t, 3, 70), filled(t, 100, 5000)} {
		before := w.Clone()
		top, _ := w.Top()
		for range 2 {
			for _, c := range append(edges(), top, top+1, top+64, top+wide, top+2*wide, top-min(top, 1), top-min(top, wide-1), limit, math.MaxUint64) {
				if a, b := w.Would(c), w.Would(c); a != b || a != before.Would(c) {
					t.Errorf("Would(%d) = %d, then %d", c, a, b)
				}
			}
		}
		same(t, w, before)
	}
	x := newBoth(t)
	for _, c := range []uint64{9, 9, 4000, 9, 3000, 3000, 1952, 1953, 1953, limit, limit - 1, 4000} {
		x.take(t, c)
		x.whole(t)
	}
}

// P7.1: what is refused has changed nothing.
func TestRefused(t *testing.T) {
	w := filled(t, 1000, 1063)
	takes(t, w, 7000, api.Fine)
	takes(t, w, 6000, api.Fine)
	before := w.Clone()
	for _, c := range []uint64{7000, 6000, 1000, 1063, 999, 0, 4952, 4951} {
		takes(t, w, c, api.Stale)
		same(t, w, before)
	}
	for _, c := range []uint64{limit, math.MaxUint64} {
		takes(t, w, c, api.Limit)
		same(t, w, before)
	}
}

// P7.1, P7.2: Top and Missing of a window that took none, 0 alone, fewer than Window, as many, and more.
func TestTopAndMissing(t *testing.T) {
	isNew(t, New())
	isNew(t, &Window{})
	w := New()
	takes(t, w, 0, api.Fine)
	is(t, w, 0, 0)
	takes(t, w, 1, api.Fine)
	is(t, w, 1, 0)
	one := New()
	takes(t, one, 1, api.Fine)
	is(t, one, 1, 1)
	takes(t, one, 0, api.Fine)
	is(t, one, 1, 0)
	for _, c := range []struct {
		first, last uint64
		missing     int
	}{
		{3, 9, 3}, {3, 2046, 3}, {3, 2047, 3}, {3, 2048, 2}, {3, 2049, 1}, {3, 2050, 0}, {3, 2051, 0}, {3, 9999, 0},
		{2047, 2047, 2047}, {2048, 2048, 2047}, {1 << 50, 1 << 50, 2047}, {1 << 50, 1<<50 + 2046, 1}, {1 << 50, 1<<50 + 2047, 0},
		{0, 2046, 0}, {0, 2047, 0}, {0, 2048, 0}, {1, 2047, 1}, {1, 2048, 0},
	} {
		is(t, filled(t, c.first, c.last), c.last, c.missing)
	}
}

// P7.2: a clone took the same; then each of the two goes on by itself.
func TestClone(t *testing.T) {
	x := newBoth(t, 5, 3, 2052, 70, 71, 1999)
	y := x.clone()
	y.whole(t)
	x.take(t, 100) // by the one
	x.take(t, 2053)
	y.whole(t)
	x.whole(t)
	y.take(t, 100) // by the other
	y.take(t, 101)
	x.whole(t)
	y.whole(t)
	y.take(t, 9000)
	y.take(t, 8000)
	x.take(t, 101)
	x.take(t, 8000)
	z := y.clone()
	z.take(t, 7999)
	x.take(t, 5)
	for _, v := range []both{x, y, z} {
		v.whole(t)
	}
	none := New()
	other := none.Clone()
	isNew(t, other)
	takes(t, none, 7, api.Fine)
	isNew(t, other)
	takes(t, other, 0, api.Fine)
	is(t, none, 7, 7)
	is(t, other, 0, 0)
}

// P7.1: each New tells another one.
func TestNew(t *testing.T) {
	w, v := New(), New()
	takes(t, w, 0, api.Fine)
	takes(t, w, 3000, api.Fine)
	isNew(t, v)
	takes(t, v, 0, api.Fine)
	isNew(t, New())
}

// P7.1, P7.2: a nil window; Nil comes ahead of Limit.
func TestNil(t *testing.T) {
	var w *Window
	for _, c := range append(edges(), limit, limit+1, math.MaxUint64) {
		takes(t, w, c, api.Nil)
	}
	if c, some := w.Top(); c != 0 || some {
		t.Errorf("Top = %d, %v", c, some)
	}
	if n := w.Missing(); n != 0 {
		t.Errorf("Missing = %d", n)
	}
	if w.Clone() != nil {
		t.Error("a clone of nobody")
	}
}

// P7.3: over counters at random, taken and refused: none is taken twice, and what was too old once is refused ever after.
func TestNoneTwice(t *testing.T) {
	r := rand.New(rand.NewSource(3))
	for range 20 {
		w := New()
		taken, old := map[uint64]bool{}, map[uint64]bool{}
		top := uint64(0)
		for range 20000 {
			c := top + 40 - uint64(r.Intn(2*wide))
			if r.Intn(200) == 0 {
				c = top + uint64(r.Intn(3*wide))
			}
			if c > top+3*wide {
				continue // below 0
			}
			switch e := w.Take(c); {
			case e == api.Fine && taken[c]:
				t.Fatalf("%d twice", c)
			case e == api.Fine && old[c]:
				t.Fatalf("%d was too old", c)
			case e == api.Fine:
				taken[c] = true
				top = max(top, c)
			case e == api.Stale && !taken[c]:
				old[c] = true
			}
		}
		for c := range taken {
			takes(t, w, c, api.Stale)
		}
		for c := range old {
			takes(t, w, c, api.Stale)
		}
		if len(taken) < wide || len(old) < 100 {
			t.Errorf("only %d were taken, and %d too old", len(taken), len(old))
		}
	}
}

// P7.1, P7.2: beside the model, over counters near each other and far apart.
func TestModel(t *testing.T) {
	r := rand.New(rand.NewSource(4))
	for run, first := range append(edges(), 0, 5, 1<<40, limit-20000) {
		x := newBoth(t, first)
		for i := range 1200 {
			c := near(r, x.m)
			if r.Intn(1000) == 0 || run%5 == 0 && r.Intn(20) == 0 {
				c = far(r)
			}
			x.take(t, c)
			if i%40 == 0 {
				x.counts(t)
			}
			if i%300 == 0 {
				x.whole(t)
				x.clone().whole(t)
			}
		}
		x.whole(t)
	}
}

// P7.1, P7.2: beside the model, over counters so near each other that most of a window is taken.
func TestModelDense(t *testing.T) {
	r := rand.New(rand.NewSource(5))
	for _, first := range []uint64{0, 1<<32 - 5000, limit - 9000} {
		x := newBoth(t, first)
		for i := range 9000 {
			top, _ := x.m.top()
			c := top + 3 - uint64(r.Intn(80))
			if r.Intn(3) == 0 {
				c = top - uint64(r.Intn(wide+100))
			}
			x.take(t, c)
			if i%500 == 0 {
				x.whole(t)
			}
		}
		x.whole(t)
	}
}
