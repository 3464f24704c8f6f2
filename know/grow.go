package know

import (
	"snicket/term"
)

// spot is what is kept of a term on which it hangs whether something can be made.
type spot struct {
	made    bool     // it can be made
	waiting []*step  // those that need it, till it is made
	sealed  []*piece // what is sealed by it in Seals that are had, till it is made
}

// step is one way to make a term: when nothing is missing any more, it is made.
type step struct {
	missing int
	to      *spot
}

// ways tells all ways to make a term that isn't had, each by what is needed for it.
func ways(p *piece) [][]*piece {
	switch p.kind {
	case term.Atom:
		return nil
	case term.Dh:
		// Who can make both x and y can make their Pubs, too.
		x, y := p.parts[0], p.parts[1]
		return [][]*piece{{x, pub(y)}, {y, pub(x)}}
	}
	return [][]*piece{p.parts} // Zero, a Number and Data need nothing
}

// spot tells the spot of a term; where there is none yet, it is made, with the spots of all that is needed.
func (k *Know) spot(p *piece) *spot {
	if s, ok := k.spots[p.name()]; ok {
		return s
	}
	s := &spot{made: k.had[p.name()]}
	k.spots[p.name()] = s
	if s.made {
		return s
	}
	for _, way := range ways(p) {
		k.step(s, way)
	}
	return s
}

// step lets a spot wait for all that is needed on one way to it, or makes it, if nothing is missing.
func (k *Know) step(to *spot, way []*piece) {
	st := &step{to: to}
	for _, p := range way {
		if s := k.spot(p); !s.made {
			st.missing++
			s.waiting = append(s.waiting, st)
		}
	}
	if st.missing == 0 {
		to.made = true
	}
}

// grow lets a term be had, and whatever is had by it.
func (k *Know) grow(p *piece) {
	if k.had == nil {
		k.had, k.spots = map[name]bool{}, map[name]*spot{}
	}
	more := []*piece{p}
next:
	if len(more) == 0 {
		return
	}
	p = more[len(more)-1]
	more = more[:len(more)-1]
	if k.had[p.name()] {
		goto next
	}
	k.had[p.name()] = true
	more = append(more, reach(k.spots[p.name()])...)
	more = append(more, k.within(p)...)
	goto next
}

// within tells what is had by having a term itself: a List's parts, what is in a Seal that opens. Of one that doesn't, it is kept for when it does.
func (k *Know) within(p *piece) []*piece {
	switch p.kind {
	case term.List:
		return p.parts
	case term.Seal:
		key := k.spot(p.parts[0])
		if key.made {
			return p.parts[1:2]
		}
		key.sealed = append(key.sealed, p.parts[1])
	}
	return nil
}

// reach lets the term of a spot, if there is one, be made, and all that waited for nothing else, and tells what was sealed by them.
func reach(s *spot) []*piece {
	var open []*piece
	more := []*spot{s}
next:
	if len(more) == 0 {
		return open
	}
	s = more[len(more)-1]
	more = more[:len(more)-1]
	if s == nil || s.made {
		goto next
	}
	s.made = true
	open = append(open, s.sealed...)
	for _, st := range s.waiting {
		st.missing--
		if st.missing == 0 {
			more = append(more, st.to)
		}
	}
	s.waiting, s.sealed = nil, nil
	goto next
}
