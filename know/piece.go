package know

import (
	"strings"

	"snicket/term"
)

// signs are those with which terms begin, each at the place that is its kind less one.
const signs = "0anxpdhkmsl"

// kindOf tells a term's kind by its first sign; term.Kind would read all of it.
func kindOf(t string) int {
	return strings.IndexByte(signs, t[0]) + 1
}

// piece is a term, with its parts.
type piece struct {
	kind  int
	text  string
	parts []*piece
}

// name is how a term stands in maps: a Pub by the term that is in it. So whoever has a term can ask for its Pub without writing that.
type name struct {
	pub  bool
	text string
}

// kind tells the kind of the term with that name.
func (n name) kind() int {
	if n.pub {
		return term.Pub
	}
	return kindOf(n.text)
}

// name tells a piece's name.
func (p *piece) name() name {
	if p.kind == term.Pub {
		return name{true, p.parts[0].text}
	}
	return name{false, p.text}
}

// pub tells the Pub of a piece; it has a name, but no text of its own.
func pub(p *piece) *piece {
	return &piece{kind: term.Pub, parts: []*piece{p}}
}

// reader goes through a term, piece by piece.
type reader struct {
	text string
	at   int
}

// read tells the piece whose text is t, a term. It goes through the text once: by term.Parts, what stands in many brackets would be read anew for each of them.
func read(t string) *piece {
	r := &reader{text: t}
	return r.piece()
}

// next tells the sign that comes next, behind the text a 0, which is no sign of terms.
func (r *reader) next() byte {
	if r.at == len(r.text) {
		return 0
	}
	return r.text[r.at]
}

// piece goes past a term, and tells it.
func (r *reader) piece() *piece {
	from := r.at
	r.word()
	p := &piece{kind: kindOf(r.text[from:])}
	if r.next() == '(' {
		p.parts = r.inside()
	}
	if p.kind == term.Kdf || p.kind == term.Seal {
		p.parts = p.parts[1:] // the first one is the N
	}
	p.text = r.text[from:r.at]
	return p
}

// word goes past all signs but brackets and commas.
func (r *reader) word() {
more:
	switch r.next() {
	case 0, '(', ',', ')':
		return
	}
	r.at++
	goto more
}

// inside goes past brackets, and tells what stands in them, the N like a part.
func (r *reader) inside() []*piece {
	var l []*piece
more:
	r.at++ // the bracket, or a comma
	if r.next() != ')' {
		l = append(l, r.piece())
	}
	if r.next() == ',' {
		goto more
	}
	r.at++
	return l
}
