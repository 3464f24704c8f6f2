package term

import (
	"math/big"
	"math/rand"
	"strconv"
	"strings"
)

// node is a term as a tree, from which the tests write its text by themselves.
type node struct {
	kind  int
	n     uint64
	b     []byte
	parts []node
}

var ends = []uint64{0, 1, 2, 3, 9, 10, 1<<32 - 1, 1 << 32, 1<<63 - 1, 1 << 63, 1<<64 - 1}

// grow makes some tree of at most that depth.
func grow(r *rand.Rand, depth int) node {
	d := node{kind: 1 + r.Intn(11), n: ends[r.Intn(len(ends))], b: make([]byte, r.Intn(4))}
	r.Read(d.b)
	if depth == 0 {
		d.kind = 1 + r.Intn(4)
	}
	least, most := arity(d.kind)
	for range least + r.Intn(most-least+1) {
		d.parts = append(d.parts, grow(r, depth-1))
	}
	switch d.kind {
	case Atom:
		d.n %= 1 << 32
	case Kdf:
		d.n = 1 + d.n%3
	case Dh:
		if d.parts[0].text() > d.parts[1].text() {
			d.parts[0], d.parts[1] = d.parts[1], d.parts[0]
		}
	}
	return d
}

// arity tells how many parts a kind takes; of Hash and List, which know no end, 4 and 3.
func arity(kind int) (int, int) {
	switch kind {
	case Pub:
		return 1, 1
	case Dh, Kdf, Mac:
		return 2, 2
	case Hash:
		return 1, 4
	case Seal:
		return 3, 3
	case List:
		return 0, 3
	}
	return 0, 0
}

func (d node) texts() []string {
	var l []string
	for _, p := range d.parts {
		l = append(l, p.text())
	}
	return l
}

func (d node) text() string {
	n, l := strconv.FormatUint(d.n, 10), strings.Join(d.texts(), ",")
	switch d.kind {
	case Zero:
		return "0"
	case Atom:
		return "a" + n
	case Number:
		return "n" + n
	case Data:
		var s strings.Builder
		s.WriteString("x")
		for _, b := range d.b {
			s.WriteString(strconv.FormatInt(0x100+int64(b), 16)[1:])
		}
		return s.String()
	case Pub:
		return "p(" + l + ")"
	case Dh:
		return "d(" + l + ")"
	case Hash:
		return "h(" + l + ")"
	case Kdf:
		return "k(" + n + "," + l + ")"
	case Mac:
		return "m(" + l + ")"
	case Seal:
		return "s(" + n + "," + l + ")"
	}
	return "l(" + l + ")"
}

// cut cuts a text at the commas that stand in no brackets; false, if its brackets don't fit.
func cut(t string) ([]string, bool) {
	if t == "" {
		return nil, true
	}
	var l []string
	depth, from := 0, 0
	for i := range len(t) {
		switch t[i] {
		case '(':
			depth++
		case ')':
			depth--
		case ',':
			if depth == 0 {
				l = append(l, t[from:i])
				from = i + 1
			}
		}
		if depth < 0 {
			return nil, false
		}
	}
	return append(l, t[from:]), depth == 0
}

// number tells whether t is the text of a number from low to high.
func number(t string, low, high uint64) bool {
	u, ok := new(big.Int).SetString(t, 10)
	return ok && u.String() == t && u.Sign() >= 0 && u.IsUint64() && u.Uint64() >= low && u.Uint64() <= high
}

// kindOf tells a text's kind from its outside to its inside, cutting it in pieces: another way than the program's.
func kindOf(t string) int {
	if t == "" || len(t) > 65536 {
		return 0
	}
	kind, rest := strings.IndexByte("0anxpdhkmsl", t[0])+1, t[1:]
	switch kind {
	case Zero:
		return only(kind, rest == "")
	case Atom:
		return only(kind, number(rest, 0, 1<<32-1))
	case Number:
		return only(kind, number(rest, 0, 1<<64-1))
	case Data:
		return only(kind, len(rest)%2 == 0 && strings.Trim(rest, "0123456789abcdef") == "")
	case 0:
		return 0
	}
	if len(rest) < 2 || rest[0] != '(' || rest[len(rest)-1] != ')' {
		return 0
	}
	l, ok := cut(rest[1 : len(rest)-1])
	if kind == Kdf || kind == Seal {
		low, high := uint64(1), uint64(3)
		if kind == Seal {
			low, high = 0, 1<<64-1
		}
		if !ok || len(l) == 0 || !number(l[0], low, high) {
			return 0
		}
		l = l[1:]
	}
	return only(kind, ok && inner(kind, l))
}

func only(kind int, ok bool) int {
	if ok {
		return kind
	}
	return 0
}

// inner tells whether l are parts such as that kind takes.
func inner(kind int, l []string) bool {
	least, most := arity(kind)
	if len(l) < least || len(l) > most && kind != Hash && kind != List {
		return false
	}
	for _, p := range l {
		if kindOf(p) == 0 {
			return false
		}
	}
	return kind != Dh || l[0] <= l[1]
}
