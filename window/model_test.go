package window

import (
	"math"
	"math/rand"
	"slices"
	"testing"

	"snicket/api"
)

// The document's numbers, written out.
const (
	wide  = 2048
	limit = 18446744073709543423
)

// model is a list of what was taken.
type model struct {
	list []uint64
}

// top tells the greatest one, and whether there is any.
func (m *model) top() (uint64, bool) {
	if len(m.list) == 0 {
		return 0, false
	}
	return slices.Max(m.list), true
}

// would tells what Would and Take should tell.
func (m *model) would(c uint64) api.Code {
	top, _ := m.top()
	if c >= limit {
		return api.Limit
	}
	if slices.Contains(m.list, c) || c <= top && top-c >= wide {
		return api.Stale
	}
	return api.Fine
}

// take does what Take should do.
func (m *model) take(c uint64) api.Code {
	e := m.would(c)
	if e == api.Fine {
		m.list = append(m.list, c)
	}
	return e
}

// missing counts from the top down.
func (m *model) missing() int {
	c, some := m.top()
	n := 0
	for i := 0; some && i < wide; i++ {
		if !slices.Contains(m.list, c) {
			n++
		}
		if c == 0 {
			break
		}
		c--
	}
	return n
}

func (m *model) clone() *model {
	return &model{slices.Clone(m.list)}
}

// both are a window and its model.
type both struct {
	w *Window
	m *model
}

// newBoth tells a window and a model that took these.
func newBoth(t *testing.T, l ...uint64) both {
	t.Helper()
	x := both{New(), &model{}}
	for _, c := range l {
		x.take(t, c)
	}
	return x
}

// clone tells both anew.
func (x both) clone() both {
	return both{x.w.Clone(), x.m.clone()}
}

// take holds Would and Take of c against the model.
func (x both) take(t *testing.T, c uint64) {
	t.Helper()
	top, _ := x.m.top()
	would, e := x.w.Would(c), x.w.Take(c)
	if want := x.m.take(c); would != want || e != want {
		t.Fatalf("top %d: Would(%d) = %d, Take = %d, not %d", top, c, would, e, want)
	}
}

// counts holds Top and Missing against the model.
func (x both) counts(t *testing.T) {
	t.Helper()
	top, some := x.w.Top()
	if want, b := x.m.top(); top != want || some != b {
		t.Fatalf("Top = %d, %v, not %d, %v", top, some, want, b)
	}
	if n, want := x.w.Missing(), x.m.missing(); n != want {
		t.Fatalf("top %d: Missing = %d, not %d", top, n, want)
	}
}

// whole holds everything that can be told against the model: Would of all counters near the window, and of some far from it.
func (x both) whole(t *testing.T) {
	t.Helper()
	x.counts(t)
	top, _ := x.w.Top()
	l := []uint64{0, 1, 63, 64, 2047, 2048, 1 << 32, 1 << 63, limit - 1, limit, limit + 1, math.MaxUint64}
	for i := range uint64(wide + 200) {
		if c := top + 100 - i; c <= top+100 { // not around 0
			l = append(l, c)
		}
	}
	for _, c := range l {
		if e, want := x.w.Would(c), x.m.would(c); e != want {
			t.Fatalf("top %d: Would(%d) = %d, not %d", top, c, e, want)
		}
	}
}

// near tells a counter at random, mostly one at which something changes.
func near(r *rand.Rand, m *model) uint64 {
	top, some := m.top()
	bit := func(n int) uint64 { return uint64(r.Intn(n)) }
	switch r.Intn(12) {
	case 0, 1, 2:
		return top + bit(4)
	case 3, 4:
		return top - bit(wide)
	case 5:
		return top - wide + 3 - bit(6)
	case 6:
		return top + 64*bit(40) + 2 - bit(4)
	case 7:
		return top + bit(100)
	case 8:
		return top + wide*(1+bit(4)) + 70 - bit(140)
	case 9:
		return top &^ 63
	case 10:
		return top - bit(70)
	}
	if some {
		return m.list[r.Intn(len(m.list))]
	}
	return bit(wide)
}

// far tells a counter at random, of any size.
func far(r *rand.Rand) uint64 {
	return r.Uint64() >> r.Intn(64)
}
