package term

import (
	"math"
	"strings"

	"snicket/api"
	"snicket/num"
)

// signs are those with which terms begin, each at the place that is its kind less one.
const signs = "0anxpdhkmsl"

const (
	digits = "0123456789"
	hexes  = digits + "abcdef"
)

// shape is what stands behind the sign of a kind.
type shape struct {
	numbered    bool   // an N,
	low, high   uint64 // with these ends
	hex         bool   // bytes
	least, most int    // so many parts; a kind that has some has them, and its N, in brackets
	ordered     bool   // none of the parts is behind the next one
}

// shapes tells all kinds' shapes. (A term can't have as many as MaxTerm parts, for each has a byte.)
func shapes() map[int]shape {
	return map[int]shape{
		Zero:   {},
		Atom:   {numbered: true, high: math.MaxUint32},
		Number: {numbered: true, high: math.MaxUint64},
		Data:   {hex: true},
		Pub:    {least: 1, most: 1},
		Dh:     {least: 2, most: 2, ordered: true},
		Hash:   {least: 1, most: api.MaxTerm},
		Kdf:    {numbered: true, low: 1, high: 3, least: 2, most: 2},
		Mac:    {least: 2, most: 2},
		Seal:   {numbered: true, high: math.MaxUint64, least: 3, most: 3},
		List:   {most: api.MaxTerm},
	}
}

// found is what a term was found to be; without a kind it is none.
type found struct {
	kind     int
	numbered bool
	n        uint64
	parts    []string
}

// fault is thrown where a text turns out to be no term.
type fault struct{}

// need throws a fault, unless it is so.
func need(so bool) {
	if !so {
		panic(fault{})
	}
}

// reader goes through a text, term by term.
type reader struct {
	text   string
	at     int
	shapes map[int]shape
	depth  int      // in how many brackets it is
	parts  []string // of the outermost term; those of others needn't be kept
}

// look tells what the text t is, as a whole.
func look(t string) (f found) {
	if len(t) > api.MaxTerm {
		return found{}
	}
	defer func() {
		if recover() != nil {
			f = found{}
		}
	}()
	r := &reader{text: t, shapes: shapes()}
	kind, n := r.term()
	need(r.at == len(t))
	return found{kind, r.shapes[kind].numbered, n, r.parts}
}

// next tells the sign that comes next; behind the text a 0, which stands in no term.
func (r *reader) next() byte {
	if r.at == len(r.text) {
		return 0
	}
	return r.text[r.at]
}

// pass goes past that sign.
func (r *reader) pass(sign byte) {
	need(r.next() == sign)
	r.at++
}

// run goes past all that come next of those signs, and tells them.
func (r *reader) run(set string) string {
	from := r.at
more:
	if strings.IndexByte(set, r.next()) >= 0 {
		r.at++
		goto more
	}
	return r.text[from:r.at]
}

// term goes past a term, and tells its kind, and its N, if it has one.
func (r *reader) term() (kind int, n uint64) {
	kind = strings.IndexByte(signs, r.next()) + 1
	s, ok := r.shapes[kind]
	need(ok)
	r.at++
	if s.most > 0 {
		return kind, r.inside(s)
	}
	if s.hex {
		need(len(r.run(hexes))%2 == 0)
	}
	return kind, r.number(s)
}

// inside goes past brackets, and tells the N that stands in them, if there is one.
func (r *reader) inside(s shape) uint64 {
	r.pass('(')
	n := r.number(s)
	if s.numbered {
		r.pass(',')
	}
	r.depth++
	r.list(s)
	r.depth--
	r.pass(')')
	return n
}

// number goes past the N that comes next, and tells it, if that shape has one.
func (r *reader) number(s shape) uint64 {
	if !s.numbered {
		return 0
	}
	n, e := num.Read(r.run(digits))
	need(e == api.Fine && n >= s.low && n <= s.high)
	return n
}

// list goes past all parts that stand in brackets.
func (r *reader) list(s shape) {
	count, last := 0, ""
	if s.least == 0 && r.next() == ')' {
		return
	}
more:
	from := r.at
	r.term()
	part := r.text[from:r.at]
	need(!s.ordered || last <= part)
	if r.depth == 1 {
		r.parts = append(r.parts, part)
	}
	count, last = count+1, part
	if r.next() == ',' {
		r.at++
		goto more
	}
	need(count >= s.least && count <= s.most)
}
