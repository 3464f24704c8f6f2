package know

import (
	"maps"
	"math/rand"
	"slices"
	"testing"

	"snicket/api"
	"snicket/term"
)

// model does what the chapter says, word by word, again and again till nothing grows: another way than the program's.
type model struct {
	had map[string]bool
	can map[string]bool // what was found out of what is had now
}

func modelOf(l ...string) *model {
	m := &model{had: map[string]bool{}}
	for _, t := range l {
		m.had[t] = true
	}
	for before := -1; before != len(m.had); {
		before = len(m.had)
		m.can = map[string]bool{}
		for _, t := range slices.Collect(maps.Keys(m.had)) {
			m.growBy(t)
		}
	}
	m.can = map[string]bool{}
	return m
}

func (m *model) growBy(t string) {
	parts := term.Parts(t)
	switch term.Kind(t) {
	case term.List:
		for _, p := range parts {
			m.had[p] = true
		}
	case term.Seal:
		if m.makes(parts[0]) {
			m.had[parts[1]] = true
		}
	}
}

func (m *model) makes(t string) bool {
	if can, ok := m.can[t]; ok {
		return can
	}
	can := m.had[t] || m.puts(t)
	m.can[t] = can
	return can
}

// puts tells whether t can be made of its parts.
func (m *model) puts(t string) bool {
	l := term.Parts(t)
	switch term.Kind(t) {
	case 0, term.Atom:
		return false
	case term.Zero, term.Number, term.Data:
		return true
	case term.Dh:
		x, y := l[0], l[1]
		return m.makes(x) && m.makes("p("+y+")") || m.makes(y) && m.makes("p("+x+")")
	}
	for _, p := range l {
		if !m.makes(p) {
			return false
		}
	}
	return true
}

func (m *model) atoms() []string {
	var l []string
	for t := range m.had {
		if term.Kind(t) == term.Atom {
			l = append(l, t)
		}
	}
	slices.Sort(l)
	return l
}

// some makes some term of at most that depth, of few atoms, so that terms have to do with each other.
func some(r *rand.Rand, depth int) string {
	atom := term.Make(term.Atom, uint64(r.Intn(6)), nil)
	if depth == 0 || r.Intn(6) == 0 {
		return []string{atom, atom, atom, atom, "0", "n1", "x00", "l()"}[r.Intn(8)]
	}
	part := func() string { return some(r, depth-1) }
	switch r.Intn(10) {
	case 0, 1:
		return term.Make(term.Pub, 0, nil, part())
	case 2, 3:
		return term.Make(term.Dh, 0, nil, part(), part())
	case 4:
		return term.Make(term.Hash, 0, nil, part(), part())
	case 5:
		return term.Make(term.Kdf, uint64(1+r.Intn(3)), nil, part(), part())
	case 6:
		return term.Make(term.Mac, 0, nil, part(), part())
	case 7, 8:
		return term.Make(term.Seal, uint64(r.Intn(2)), nil, part(), part(), part())
	}
	return term.Make(term.List, 0, nil, part(), part())
}

// somes makes some terms to be had: many seals, their keys, what opens those.
func somes(r *rand.Rand) []string {
	var l []string
	for range r.Intn(9) {
		t := some(r, r.Intn(3))
		if r.Intn(2) == 0 {
			t = term.Make(term.Seal, uint64(r.Intn(2)), nil, some(r, 2), some(r, 1), some(r, 1))
		}
		l = append(l, t)
	}
	return l
}

// questions tells terms whose answers may differ: whatever stands in l, the Pubs of all that, and some more.
func questions(r *rand.Rand, l []string) []string {
	out := []string{"0", "n7", "xff", "l()", "a0", "a1", "a2", "a3", "a4", "a5", "a6"}
	todo := slices.Clone(l)
	for len(todo) > 0 {
		t := todo[len(todo)-1]
		todo = append(todo[:len(todo)-1], term.Parts(t)...)
		out = append(out, t, "p("+t+")")
	}
	for range 30 {
		out = append(out, some(r, 3))
	}
	return out
}

// of tells somebody who has these terms, added one by one.
func of(t *testing.T, l ...string) *Know {
	t.Helper()
	k := New()
	for _, s := range l {
		if e := k.Add(s); e != api.Fine {
			t.Fatalf("Add(%q) = %d", short(s), e)
		}
	}
	return k
}

func short(t string) string {
	if len(t) > 80 {
		return t[:80] + ".."
	}
	return t
}

// canJust tells by an error where what can be derived is not as it must be.
func canJust(t *testing.T, k *Know, yes, no []string) {
	t.Helper()
	for _, s := range yes {
		if !k.Can(s) {
			t.Errorf("%q can't be derived", short(s))
		}
	}
	for _, s := range no {
		if k.Can(s) {
			t.Errorf("%q can be derived", short(s))
		}
	}
}

// hasJust likewise of what is had; yes is all of it.
func hasJust(t *testing.T, k *Know, yes, no []string) {
	t.Helper()
	if k.Len() != len(yes) {
		t.Errorf("%d terms are had, not %d", k.Len(), len(yes))
	}
	for _, s := range yes {
		if !k.Has(s) || !k.Can(s) {
			t.Errorf("%q: had %t, can be derived %t", short(s), k.Has(s), k.Can(s))
		}
	}
	for _, s := range no {
		if k.Has(s) {
			t.Errorf("%q is had", short(s))
		}
	}
}

// sameAs holds all that is told against the model.
func sameAs(t *testing.T, k *Know, m *model, asked []string) {
	t.Helper()
	if k.Len() != len(m.had) {
		t.Errorf("%d terms are had, not %d", k.Len(), len(m.had))
	}
	if got, want := k.Atoms(), m.atoms(); !slices.Equal(got, want) {
		t.Errorf("the Atoms: %v, not %v", got, want)
	}
	for s := range m.had {
		if !k.Has(s) {
			t.Errorf("%q isn't had", s)
		}
	}
	for _, s := range asked {
		if got, want := k.Can(s), m.makes(s); got != want {
			t.Errorf("Can(%q) = %t", s, got)
		}
		if got, want := k.Has(s), m.had[s]; got != want {
			t.Errorf("Has(%q) = %t", s, got)
		}
	}
}
