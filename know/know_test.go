package know

import (
	"math/rand"
	"slices"
	"strconv"
	"strings"
	"testing"

	"snicket/api"
	"snicket/term"
)

// P3.1: a nil one has nothing, makes nothing, and says so ahead of anything else.
func TestNil(t *testing.T) {
	var k *Know
	for _, l := range [][]string{nil, {}, {"a1"}, {"0", "l()"}, {"nonsense"}, {""}} {
		if e := k.Add(l...); e != api.Nil {
			t.Errorf("Add(%q) = %d", l, e)
		}
	}
	for _, s := range []string{"", "0", "n1", "x", "l()", "h(0)", "p(0)", "a1", "nonsense"} {
		if k.Can(s) || k.Has(s) {
			t.Errorf("%q: had %t, can be derived %t", s, k.Has(s), k.Can(s))
		}
	}
	if k.Len() != 0 || len(k.Atoms()) != 0 {
		t.Errorf("Len() = %d, Atoms() = %v", k.Len(), k.Atoms())
	}
}

// P3.1: who has nothing makes just what needs nothing. (One that New didn't tell is one, too.)
func TestNothingIsHad(t *testing.T) {
	for _, k := range []*Know{New(), {}} {
		yes := []string{"0", "n0", "n18446744073709551615", "x", "x0aff", "l()", "l(0,n1,x00)", "l(l(),l(l()))", "h(0)", "h(n1,n2,n3)", "p(0)", "p(p(x))", "d(0,0)", "d(0,x00)", "d(n1,p(n2))", "k(3,0,n1)", "m(x,x)", "s(7,0,n1,x00)"}
		no := []string{"a0", "a1", "p(a1)", "h(a1)", "h(0,0,a1)", "k(1,a1,0)", "k(1,0,a1)", "m(a1,0)", "m(0,a1)", "s(7,a1,0,0)", "s(7,0,a1,0)", "s(7,0,0,a1)", "l(a1)", "l(0,0,l(0,a1))", "d(0,a1)", "d(a1,a1)", "d(a1,a2)"}
		canJust(t, k, yes, no)
		hasJust(t, k, nil, append(yes, no...))
		if l := k.Atoms(); len(l) != 0 {
			t.Errorf("Atoms() = %v", l)
		}
	}
	var k Know
	if e := k.Add("l(a1,a2)"); e != api.Fine {
		t.Fatal(e)
	}
	hasJust(t, &k, []string{"l(a1,a2)", "a1", "a2"}, nil)
}

// P3.1: Add of nothing is Fine, and nothing more is had.
func TestAddNothing(t *testing.T) {
	k := New()
	for range 2 {
		for _, l := range [][]string{nil, {}} {
			was := k.Len()
			if e := k.Add(l...); e != api.Fine || k.Len() != was {
				t.Errorf("Add of nothing = %d, and %d terms are had", e, k.Len())
			}
		}
		k.Add("a1", "a2")
	}
	hasJust(t, k, []string{"a1", "a2"}, nil)
}

// noTerms are texts that are none.
func noTerms() []string {
	return []string{"", " ", "a", "a01", "a4294967296", "n", "n18446744073709551616", "x0", "xAB", "z", "0 ", "00", "p(0", "p()", "p(", "p)", "(", ")", ",", "p(0,0)", "p(0),p(0)", "d(a2,a1)", "h()", "k(0,a1,0)", "k(4,a1,0)", "k(1)", "m(a1)", "s(1,a1,0)", "l(0,)", "l(,)", "l(", "l( 0)", "\x00", "\xff", "a\u0663", strings.Repeat("p(", 40000), "x" + strings.Repeat("00", 32768)}
}

// P3.1: Form, if one of them is no term, wherever it stands; then nothing changes.
func TestAddOfNoTerm(t *testing.T) {
	good := []string{"a1", "l(a2,a3)", "s(0,a4,a5,0)", "a4", "p(a6)"}
	for _, bad := range noTerms() {
		for at := range len(good) + 1 {
			k := of(t, "a9", "s(1,k(1,a1,a4),a8,0)")
			if e := k.Add(slices.Insert(slices.Clone(good), at, bad)...); e != api.Form {
				t.Errorf("Add with %q = %d", short(bad), e)
			}
			hasJust(t, k, []string{"a9", "s(1,k(1,a1,a4),a8,0)"}, append(good, "a2", "a3", "a5", "a8", bad))
			canJust(t, k, []string{"p(a9)"}, append(good, "a2", "a5", "a8", "d(a6,a9)", bad))
			if l := k.Atoms(); !slices.Equal(l, []string{"a9"}) {
				t.Errorf("Atoms() = %v", l)
			}
		}
	}
}

// P3.1: no text that is no term can be derived, or is had, also where it looks like what is.
func TestAskedOfNoTerm(t *testing.T) {
	k := of(t, "0", "a1", "a2", "p(0)", "l()", "l(0)", "p(a1)", "x00", "x", "n1", "d(a1,a2)")
	asked := append(noTerms(), "a1 ", " a1", "a1,a2", "a001", "p(a1", "p(a1))", "pa1)", "l(a1,a2", "a1)", "p", "l", "x000", "n01", "d(a2,a1)", "0,0")
	canJust(t, k, nil, asked)
	for _, s := range asked {
		if k.Has(s) {
			t.Errorf("%q is had", short(s))
		}
	}
}

// P3.1: what is had grows by the parts of a List, and by the parts of Lists among them.
func TestLists(t *testing.T) {
	k := of(t, "l(a1,l(a2,0,l(),h(a3)),a1,n5)")
	hasJust(t, k, []string{"l(a1,l(a2,0,l(),h(a3)),a1,n5)", "a1", "l(a2,0,l(),h(a3))", "a2", "0", "l()", "h(a3)", "n5"}, []string{"a3", "n", "p(a1)", "n6"})
	canJust(t, k, []string{"l(a2,a1)", "h(h(a3),a2)"}, []string{"a3", "l(a3)", "h(h(a3),a3)"})
	hasJust(t, of(t, "l()"), []string{"l()"}, []string{"0", ""})
	hasJust(t, of(t, "l(0,0,0)"), []string{"l(0,0,0)", "0"}, nil)
}

// P3.1: by no other kind's parts: they can't be derived, and aren't had.
func TestOtherKindsKeepTheirParts(t *testing.T) {
	for _, s := range []string{"p(a1)", "d(a1,a2)", "h(a1)", "h(a1,a2,l(a3))", "k(1,a1,a2)", "m(a1,a2)", "s(0,a1,a2,a3)", "p(l(a1,a2))", "h(s(0,0,a1,0))", "m(0,a1)", "k(3,0,a1)", "s(0,a1,l(a2),a3)", "s(0,0,0,a1)", "s(0,a1,0,0)"} {
		k := of(t, s)
		want := []string{s}
		if s == "s(0,0,0,a1)" { // of which the key can be made, so that a 0 is had
			want = append(want, "0")
		}
		hasJust(t, k, want, []string{"a1", "a2", "a3"})
		canJust(t, k, []string{"h(" + s + ")", "l(" + s + "," + s + ")", "p(" + s + ")"}, []string{"a1", "a2", "a3", "l(a1)"})
		if l := k.Atoms(); len(l) != 0 {
			t.Errorf("%q: Atoms() = %v", s, l)
		}
	}
}

// P3.1: a Seal's second part is had, if its key is had, or can be made.
func TestSealsOpen(t *testing.T) {
	for _, c := range []struct{ had, key string }{
		{"a1", "a1"}, {"0", "0"}, {"0", "n7"}, {"0", "xff"}, {"0", "l()"}, {"0", "h(0,n1)"}, {"a1", "k(1,a1,0)"}, {"a1", "k(3,0,a1)"}, {"a1", "h(p(a1),a1)"}, {"a1", "m(a1,x)"},
		{"a1", "s(4,a1,0,0)"}, {"a1", "l(a1,0,a1)"}, {"a1", "p(a1)"}, {"p(a1)", "p(a1)"}, {"h(a1)", "k(1,h(a1),0)"}, {"d(a1,a2)", "d(a1,a2)"}, {"l(a1,a2)", "d(a1,a2)"},
		{"l(a1,p(a2))", "k(1,d(a1,a2),0)"}, {"l(p(a1),a2)", "k(1,d(a1,a2),0)"}, {"a1", "d(0,a1)"}, {"a1", "d(a1,a1)"}, {"p(a1)", "d(0,a1)"}, {"l(a2,p(h(a1)))", "d(a2,h(a1))"}, {"h(a1,a2)", "k(1,h(a1,a2),h(a1,a2))"},
	} {
		seal := "s(7," + c.key + ",l(a8,a9),h(a7))"
		for _, l := range [][]string{{c.had, seal}, {seal, c.had}, {"l(" + seal + "," + c.had + ")"}} {
			k := of(t, l...)
			for _, s := range []string{seal, "l(a8,a9)", "a8", "a9"} {
				if !k.Has(s) || !k.Can(s) {
					t.Errorf("%v: %q isn't had", l, s)
				}
			}
			if k.Has("a7") || k.Has("h(a7)") || k.Can("a7") || k.Can("h(a7)") {
				t.Errorf("%v: the third part of %q can be derived", l, seal)
			}
			if k.Len() != len(modelOf(l...).had) {
				t.Errorf("%v: %d terms are had", l, k.Len())
			}
		}
	}
}

// P3.1: it isn't, if the key can't be made.
func TestSealsStayShut(t *testing.T) {
	for _, c := range []struct{ had, key string }{
		{"a2", "a1"}, {"p(a1)", "a1"}, {"h(a1)", "a1"}, {"k(1,a1,0)", "k(2,a1,0)"}, {"k(1,a1,0)", "a1"}, {"m(a1,0)", "a1"}, {"a1", "h(a1,a2)"}, {"a2", "h(a1,a2)"}, {"l(p(a1),p(a2))", "d(a1,a2)"},
		{"l(h(a1),p(a2))", "d(a1,a2)"}, {"a1", "d(a1,a2)"}, {"p(a1)", "d(a1,a1)"}, {"a2", "p(a1)"}, {"p(p(a1))", "p(a1)"}, {"l(a1,h(a2))", "d(a1,a2)"}, {"s(0,a1,0,0)", "a1"}, {"d(a1,a2)", "d(a1,a3)"}, {"l(a1,p(h(a2)))", "d(a1,a2)"},
		{"a1", "a10"}, {"a10", "a1"}, {"h(a1,a2)", "h(a2,a1)"}, {"k(1,a1,a2)", "k(1,a2,a1)"},
	} {
		seal := "s(7," + c.key + ",a8,a9)"
		for _, l := range [][]string{{c.had, seal}, {seal, c.had}, {"l(" + seal + "," + c.had + ")"}} {
			k := of(t, l...)
			canJust(t, k, []string{seal, c.had}, []string{"a8", "a9", "l(a8)"})
			if k.Has("a8") || k.Has("a9") || len(k.Atoms()) > 1 {
				t.Errorf("%v: %q is open", l, seal)
			}
		}
	}
}

// P3.1: a Seal opens once its key can be made, whatever was missing, and stays open.
func TestSealsOpenLate(t *testing.T) {
	k := of(t, "s(0,k(1,h(a1,a1,d(a2,a3)),p(a4)),a9,0)", "s(5,k(1,h(a1,a1,d(a2,a3)),p(a4)),a8,0)")
	for _, s := range []string{"p(a2)", "a1", "p(p(a4))", "p(a4)", "h(a3)", "p(a3)", "h(a1,a1)", "k(1,0,0)"} {
		k.Add(s)
		canJust(t, k, nil, []string{"a8", "a9"})
	}
	k.Add("a3")
	hasJust(t, k, []string{"s(0,k(1,h(a1,a1,d(a2,a3)),p(a4)),a9,0)", "s(5,k(1,h(a1,a1,d(a2,a3)),p(a4)),a8,0)", "p(a2)", "a1", "p(p(a4))", "p(a4)", "h(a3)", "p(a3)", "h(a1,a1)", "k(1,0,0)", "a3", "a8", "a9"}, []string{"a2", "a4", "0"})
	k.Add("s(6,k(1,h(a1,a1,d(a2,a3)),p(a4)),a7,0)")
	if !k.Has("a7") {
		t.Error("a7 isn't had")
	}
}

// P3.1: what is missing may come in the middle of a key, too: a term that is had needs no parts.
func TestPartsOfKeysAreHadAsTheyAre(t *testing.T) {
	key := "k(1,h(a1,k(2,a2,d(a3,a4))),m(a5,0))"
	for _, l := range [][]string{
		{key}, {"h(a1,k(2,a2,d(a3,a4)))", "m(a5,0)"}, {"a1", "k(2,a2,d(a3,a4))", "a5"}, {"a1", "a2", "d(a3,a4)", "m(a5,0)"}, {"a5", "a2", "p(a3)", "a1", "a4"}, {"a5", "a2", "a3", "a1", "p(a4)"}, {"a4", "a3", "a2", "a1", "a5"},
	} {
		seal := "s(0," + key + ",a9,0)"
		k := of(t, seal)
		for i, s := range l {
			k.Add(s)
			if open := k.Has("a9"); open != (i == len(l)-1) {
				t.Errorf("%v: after %q open: %t", l, s, open)
			}
		}
		canJust(t, of(t, append(l, seal)...), []string{"a9"}, []string{"a8"})
	}
}

// P3.1: a key that can be made only behind another Seal that opens, through many, in whatever order.
func TestSealsBehindSeals(t *testing.T) {
	l := []string{"s(0,k(1,a1,0),a2,0)", "s(0,h(a2),l(a3,p(a4)),0)", "s(0,d(a3,a4),s(1,h(a3),a5,0),0)", "s(2,m(a5,a2),a6,a7)", "a1"}
	want := append(slices.Clone(l), "a2", "l(a3,p(a4))", "a3", "p(a4)", "s(1,h(a3),a5,0)", "a5", "a6")
	for _, order := range orders(len(l)) {
		k := New()
		for _, i := range order {
			k.Add(l[i])
		}
		hasJust(t, k, want, []string{"a4", "a7", "0", "h(a2)"})
	}
	hasJust(t, of(t, l[:4]...), l[:4], want[5:])
	hasJust(t, of(t, "s(0,a1,s(0,a1,s(0,a1,a2,0),0),0)", "a1"), []string{"s(0,a1,s(0,a1,s(0,a1,a2,0),0),0)", "s(0,a1,s(0,a1,a2,0),0)", "s(0,a1,a2,0)", "a2", "a1"}, []string{"0"})
}

// orders tells all orders of that many.
func orders(n int) [][]int {
	if n == 0 {
		return [][]int{nil}
	}
	var l [][]int
	for _, o := range orders(n - 1) {
		for at := range n {
			l = append(l, slices.Insert(slices.Clone(o), at, n-1))
		}
	}
	return l
}

// P3.1: Seals that hold their own keys, or each other's, stay shut, till one key comes.
func TestSealsInACircle(t *testing.T) {
	hasJust(t, of(t, "s(0,a1,a1,0)"), []string{"s(0,a1,a1,0)"}, []string{"a1", "0"})
	hasJust(t, of(t, "s(0,h(a1),k(1,a1,0),0)", "s(0,k(1,a1,0),h(a1),0)"), []string{"s(0,h(a1),k(1,a1,0),0)", "s(0,k(1,a1,0),h(a1),0)"}, []string{"h(a1)", "k(1,a1,0)"})
	k := of(t, "s(0,a1,a2,0)", "s(0,a2,a3,0)", "s(0,a3,a1,0)")
	hasJust(t, k, []string{"s(0,a1,a2,0)", "s(0,a2,a3,0)", "s(0,a3,a1,0)"}, []string{"a1", "a2", "a3"})
	k.Add("a2")
	hasJust(t, k, []string{"s(0,a1,a2,0)", "s(0,a2,a3,0)", "s(0,a3,a1,0)", "a1", "a2", "a3"}, nil)
}

// P3.1: a Dh by x and p(y), by y and p(x), and by nothing less.
func TestDh(t *testing.T) {
	for _, c := range []struct {
		l    []string
		want bool
	}{
		{[]string{"a1", "p(a2)"}, true}, {[]string{"p(a1)", "a2"}, true}, {[]string{"a1", "a2"}, true}, {[]string{"d(a1,a2)"}, true}, {[]string{"p(a1)", "p(a2)", "a2"}, true},
		{[]string{"l(p(a1),a2)"}, true}, {[]string{"a3", "s(0,a3,p(a1),0)", "a2"}, true}, {[]string{"a1", "s(0,a1,a2,0)"}, true}, {[]string{"a1", "s(0,d(a1,a2),0,0)", "p(a2)"}, true},
		{nil, false}, {[]string{"a1"}, false}, {[]string{"a2"}, false}, {[]string{"p(a1)"}, false}, {[]string{"p(a1)", "p(a2)"}, false}, {[]string{"a1", "p(a1)"}, false}, {[]string{"a2", "p(a2)"}, false},
		{[]string{"a1", "h(a2)"}, false}, {[]string{"a1", "p(p(a2))"}, false}, {[]string{"a1", "p(a20)"}, false}, {[]string{"a1", "h(p(a2))"}, false}, {[]string{"p(d(a1,a2))", "a1"}, false}, {[]string{"a1", "d(a1,a3)", "d(a2,a3)", "p(a3)"}, false},
	} {
		k := of(t, c.l...)
		for _, s := range []string{"d(a1,a2)", "h(d(a1,a2))", "l(p(0),d(a1,a2))", "k(1,d(a1,a2),0)"} {
			if got := k.Can(s); got != c.want {
				t.Errorf("of %v: Can(%q) = %t", c.l, s, got)
			}
		}
	}
	canJust(t, of(t, "p(a1)", "a2"), []string{"d(a1,a2)"}, []string{"a1", "d(a1,a1)"})
	canJust(t, of(t, "a1"), []string{"d(a1,a1)", "d(0,a1)", "d(a1,p(a1))", "d(a1,x)"}, []string{"d(a1,a2)"})
	canJust(t, of(t, "p(a1)"), []string{"d(0,a1)", "d(a1,x)", "d(a1,p(a1))", "d(a1,l(0))"}, []string{"d(a1,a1)", "d(a1,h(a1))"})
	canJust(t, of(t, "a1", "p(h(a2))", "p(a3)"), []string{"d(a1,h(a2))", "d(d(a1,a3),h(a2))"}, []string{"d(a1,a2)", "h(a2)", "d(a3,h(a2))"})
	canJust(t, of(t, "a3", "p(p(a4))"), []string{"d(a3,p(a4))"}, []string{"p(a4)", "d(a3,a4)"})
	canJust(t, of(t, "a0", "p(d(a1,a2))"), []string{"d(a0,d(a1,a2))", "p(d(a1,a2))"}, []string{"d(a1,a2)", "d(a1,d(a1,a2))"})
}

// P3.1: a Pub is made of its secret, and doesn't tell it.
func TestPub(t *testing.T) {
	k := of(t, "p(a1)", "p(h(a2))", "p(p(a3))")
	hasJust(t, k, []string{"p(a1)", "p(h(a2))", "p(p(a3))"}, []string{"a1", "h(a2)", "p(a3)", "a3"})
	canJust(t, k, []string{"p(p(a1))", "h(p(a1))"}, []string{"a1", "a2", "h(a2)", "p(a2)", "p(a3)", "a3", "h(a1)"})
	canJust(t, of(t, "a1"), []string{"p(a1)", "p(p(a1))", "p(l(a1,a1))"}, []string{"p(a2)", "p(l(a1,a2))"})
	hasJust(t, of(t, "a1"), []string{"a1"}, []string{"p(a1)"})
	hasJust(t, of(t, "s(0,p(a1),p(a2),0)", "p(a1)"), []string{"s(0,p(a1),p(a2),0)", "p(a1)", "p(a2)"}, []string{"a2", "a1"})
	hasJust(t, of(t, "s(0,a1,p(a2),0)", "a1"), []string{"s(0,a1,p(a2),0)", "a1", "p(a2)"}, []string{"a2"})
}

// P3.1: each kind can be made just if all its parts can.
func TestAllPartsAreNeeded(t *testing.T) {
	k := of(t, "a1", "h(n7,a3)")
	for _, c := range []string{"h(?)", "h(0,?,0)", "h(0,0,?)", "k(1,?,0)", "k(2,0,?)", "m(?,0)", "m(0,?)", "s(0,?,0,0)", "s(0,0,?,0)", "s(0,0,0,?)", "l(?)", "l(?,0,0)", "l(0,0,?)", "p(?)", "p(h(l(0,m(?,x))))"} {
		for part, want := range map[string]bool{"a1": true, "0": true, "h(n7,a3)": true, "p(a1)": true, "h(a1)": true, "a2": false, "a3": false, "h(a2)": false, "p(a2)": false, "d(a1,a2)": false, "h(a3)": false, "h(a3,n7)": false} {
			if s := strings.Replace(c, "?", part, 1); k.Can(s) != want {
				t.Errorf("Can(%q) = %t", s, !want)
			}
		}
	}
}

// P3.1: terms added twice, at once or later, are had once.
func TestAddedTwice(t *testing.T) {
	k := New()
	l := []string{"a1", "l(a1,a2)", "a1", "s(0,a1,a3,0)", "s(0,a9,a4,0)", "p(a1)", "0", "0"}
	for range 3 {
		for range 3 {
			if e := k.Add(l...); e != api.Fine {
				t.Fatal(e)
			}
		}
		hasJust(t, k, []string{"a1", "l(a1,a2)", "a2", "s(0,a1,a3,0)", "a3", "s(0,a9,a4,0)", "p(a1)", "0"}, []string{"a4", "a9"})
		for range 2 {
			k.Add("a3", "a2")
		}
	}
	for range 2 {
		k.Add("a9")
		hasJust(t, k, []string{"a1", "l(a1,a2)", "a2", "s(0,a1,a3,0)", "a3", "s(0,a9,a4,0)", "p(a1)", "0", "a4", "a9"}, nil)
	}
}

// P3.1: the Atoms that are had, byte by byte, each once, and no others.
func TestAtoms(t *testing.T) {
	k := of(t, "a9", "l(a10,a2,l(a100,a2))", "a1", "h(a3)", "p(a4)", "s(0,a9,l(a20,a4294967295),a5)", "s(0,a6,a7,0)", "n8", "0", "a0", "x0a", "a9")
	want := []string{"a0", "a1", "a10", "a100", "a2", "a20", "a4294967295", "a9"}
	first := k.Atoms()
	if !slices.Equal(first, want) {
		t.Errorf("Atoms() = %v, not %v", first, want)
	}
	first[0] = "a77"
	_ = append(first[:1], "a78")
	if again := k.Atoms(); !slices.Equal(again, want) || k.Has("a77") {
		t.Errorf("the second time: %v", again)
	}
	if one := New().Atoms(); len(one) != 0 {
		t.Errorf("of nothing: %v", one)
	}
	for i := range 300 {
		k.Add("a" + strconv.Itoa(i))
	}
	if l := k.Atoms(); len(l) != 301 || !slices.IsSorted(l) {
		t.Errorf("%d Atoms, in order: %t", len(l), slices.IsSorted(l))
	}
}

// R2, R4: to ask changes nothing, and what is handed in stays as it is.
func TestAskingChangesNothing(t *testing.T) {
	l := []string{"s(0,k(1,a1,d(a2,a3)),a9,0)", "l(a2,p(a3))", "h(a4)"}
	was := slices.Clone(l)
	k := New()
	k.Add(l...)
	asked := []string{"a1", "k(1,a1,d(a2,a3))", "a9", "d(a2,a3)", "h(a1)", "l(a1,a2)", "s(0,a2,a5,0)", "p(a1)", "h(h(a4),a2)", "nonsense", "s(0,a2,a2,0)"}
	for range 2 {
		canJust(t, k, []string{"d(a2,a3)", "h(h(a4),a2)", "s(0,a2,a2,0)"}, []string{"a1", "k(1,a1,d(a2,a3))", "a9", "s(0,a2,a5,0)"})
		sameAs(t, k, modelOf(l...), asked[:9])
	}
	if !slices.Equal(l, was) {
		t.Errorf("handed in: %v", l)
	}
	l[0] = "a7"
	k.Add("a1")
	sameAs(t, k, modelOf(append(was, "a1")...), asked[:9])
	other := New()
	if other.Len() != 0 || other.Can("a1") {
		t.Error("one has what another one was told")
	}
}

// P3.1: many terms at random: all is told as the model tells it, at every step.
func TestAsTheModel(t *testing.T) {
	r := rand.New(rand.NewSource(1))
	open, shut := 0, 0
	for range 600 {
		l := somes(r)
		asked := questions(r, l)
		k := New()
		for i := range l {
			k.Add(l[i])
			m := modelOf(l[:i+1]...)
			sameAs(t, k, m, asked)
			if term.Kind(l[i]) == term.Seal && m.had[term.Parts(l[i])[1]] {
				open++
			} else if term.Kind(l[i]) == term.Seal {
				shut++
			}
		}
		if t.Failed() {
			t.Fatalf("of %v", l)
		}
	}
	if open < 200 || shut < 200 {
		t.Errorf("%d seals opened, %d stayed shut", open, shut)
	}
}

// P3.2: in whatever order, and by how many calls, terms are added, the same can be derived, and the same is had.
func TestAnyOrder(t *testing.T) {
	r := rand.New(rand.NewSource(2))
	for range 300 {
		l := somes(r)
		m, asked := modelOf(l...), questions(r, l)
		for range 4 {
			r.Shuffle(len(l), func(i, j int) { l[i], l[j] = l[j], l[i] })
			k := New()
			cut := r.Intn(len(l) + 1)
			k.Add(l[:cut]...)
			k.Add(l[cut:]...)
			sameAs(t, k, m, asked)
		}
		if t.Failed() {
			t.Fatalf("of %v", l)
		}
	}
}

// P3.2: who has more can derive no less, and has no less.
func TestMoreIsNoLess(t *testing.T) {
	r := rand.New(rand.NewSource(3))
	for range 300 {
		l := append(somes(r), somes(r)...)
		asked := questions(r, l)
		k := New()
		could, had, count := map[string]bool{}, map[string]bool{}, 0
		for _, s := range l {
			k.Add(s)
			for _, q := range asked {
				if could[q] && !k.Can(q) || had[q] && !k.Has(q) {
					t.Fatalf("of %v: with %q %q is lost", l, s, q)
				}
				could[q], had[q] = k.Can(q), k.Has(q)
			}
			if k.Len() < count {
				t.Fatalf("of %v: with %q %d terms are had, after %d", l, s, k.Len(), count)
			}
			count = k.Len()
		}
	}
}

// P3.2: what can be derived adds nothing to what can be.
func TestWhatCanBeDerivedAddsNothing(t *testing.T) {
	r := rand.New(rand.NewSource(4))
	added := 0
	for range 300 {
		l := somes(r)
		asked := questions(r, l)
		k := of(t, l...)
		could := map[string]bool{}
		for _, q := range asked {
			could[q] = k.Can(q)
		}
		for _, q := range asked {
			if !could[q] {
				continue
			}
			added++
			if e := k.Add(q); e != api.Fine || !k.Has(q) {
				t.Fatalf("of %v: Add(%q) = %d, had %t", l, q, e, k.Has(q))
			}
		}
		for _, q := range asked {
			if k.Can(q) != could[q] {
				t.Fatalf("of %v: with what can be derived %q: %t, before %t", l, q, k.Can(q), could[q])
			}
		}
	}
	if added < 2000 {
		t.Errorf("only %d terms could be derived", added)
	}
}

// R1: the deepest terms and the longest ones, of which each piece is looked at but once.
func TestDeepAndLongTerms(t *testing.T) {
	deep := func(open, in, shut string) string {
		n := (65500 - len(in)) / (len(open) + len(shut)) // so that it still fits into a seal
		return strings.Repeat(open, n) + in + strings.Repeat(shut, n)
	}
	for _, c := range []struct{ open, shut string }{{"p(", ")"}, {"h(", ")"}, {"l(", ")"}, {"h(0,", ")"}, {"d(0,", ")"}, {"d(", ",x)"}, {"k(1,0,", ")"}, {"m(", ",0)"}, {"s(0,0,", ",0)"}, {"s(0,", ",0,0)"}, {"d(a0,", ")"}} {
		s := deep(c.open, "a5", c.shut)
		if term.Kind(s) == 0 {
			t.Fatalf("%q is no term", short(s))
		}
		k := of(t, "a0")
		canJust(t, k, nil, []string{s})
		if e := k.Add("s(0,h(0," + s + "),a9,0)"); e != api.Fine {
			t.Fatal(e)
		}
		canJust(t, k, nil, []string{s, "a9"})
		k.Add("a5")
		canJust(t, k, []string{s, "a9"}, []string{"a8"})
		k.Add(s)
		if !k.Has(s) || !k.Has("a9") {
			t.Errorf("%q isn't had", short(s))
		}
	}
	wide := "l(" + strings.Repeat("a7,", 21843) + "a8)"
	hasJust(t, of(t, wide), []string{wide, "a7", "a8"}, nil)
	k := of(t, "s(0,h("+strings.Repeat("a7,", 21000)+"a8),a9,0)", "a8")
	canJust(t, k, nil, []string{"a9"})
	k.Add("a7")
	canJust(t, k, []string{"a9"}, nil)
}

// R1: many seals, each of which opens the one ahead of it, take no round for each of them.
func TestManySeals(t *testing.T) {
	const n = 20000
	atom := func(i int) string { return "a" + strconv.Itoa(i) }
	var l []string
	for i := n; i > 0; i-- {
		l = append(l, "s(0,k(1,"+atom(i)+",p("+atom(i)+")),"+atom(i+1)+",0)")
	}
	k := New()
	k.Add(l...)
	if k.Len() != n {
		t.Errorf("%d terms are had", k.Len())
	}
	k.Add("a1")
	if k.Len() != 2*n+1 || !k.Has(atom(n+1)) || len(k.Atoms()) != n+1 {
		t.Errorf("%d terms are had", k.Len())
	}
}
