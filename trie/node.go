package trie

import (
	"iter"

	"snicket/addr"
	"snicket/api"
)

// nobody is the owner of a node that is there for its kids alone.
const nobody = -1

// node is a plain prefix. It is there because it has an owner, or because two lie in it that part at the bit behind its own: so there are less than twice as many nodes as rows.
type node struct {
	prefix api.Prefix
	owner  int
	kids   [2]*node // those that lie in it, by the bit behind its own
}

// root tells the place of the first node for addresses of so many bytes.
func (t *Table) root(size int) **node {
	if size == 4 {
		return &t.short
	}
	return &t.long
}

// way tells the places that lie on the way to the plain prefix p: of all nodes in which it lies, in order, and last the one where it is, or would be put.
func (t *Table) way(p api.Prefix) []**node {
	var l []**node
	at := t.root(len(p.Addr))
next:
	l = append(l, at)
	n := *at
	if n == nil || n.prefix.Bits >= p.Bits || !addr.Within(p, n.prefix) {
		return l
	}
	at = n.kid(p)
	goto next
}

// back goes through a way from its last place on.
func back(way []**node) iter.Seq[**node] {
	return func(yield func(**node) bool) {
		for i := len(way) - 1; i >= 0; i-- {
			if !yield(way[i]) {
				return
			}
		}
	}
}

// node tells the node of a plain prefix; where there is none, it is made.
func (t *Table) node(p api.Prefix) *node {
next:
	way := t.way(p)
	at := way[len(way)-1]
	n := *at
	if n == nil {
		n = &node{prefix: p, owner: nobody}
		*at = n
		return n
	}
	c := common(p, n.prefix)
	if c.Bits == n.prefix.Bits {
		return n // p lies in it, and the way ends here: it is p
	}
	above := &node{prefix: c, owner: nobody}
	*above.kid(n.prefix) = n
	*at = above
	goto next
}

// kid tells the place among n's kids for p, which lies in n and has more bits.
func (n *node) kid(p api.Prefix) **node {
	return &n.kids[bit(p.Addr, n.prefix.Bits)]
}

// needed tells what has to stay where n is: n, or, if nobody needs it, its only kid, if there is one.
func (n *node) needed() *node {
	switch {
	case n == nil || n.owner != nobody:
		return n
	case n.kids[0] == nil:
		return n.kids[1]
	case n.kids[1] == nil:
		return n.kids[0]
	}
	return n
}

// walk tells all prefixes that have an owner, in order.
func (t *Table) walk(tell func(p api.Prefix, owner int)) {
	if t == nil {
		return
	}
	t.short.walk(tell)
	t.long.walk(tell)
}

// walk tells n ahead of those that lie in it: these have no lesser bytes, and more bits.
func (n *node) walk(tell func(p api.Prefix, owner int)) {
	if n == nil {
		return
	}
	if n.owner != nobody {
		tell(n.prefix, n.owner)
	}
	for _, kid := range n.kids {
		kid.walk(tell)
	}
}

// common tells the plain prefix with the most bits that has all addresses of p and of q.
func common(p, q api.Prefix) api.Prefix {
	n := 0
	for n < min(p.Bits, q.Bits) && bit(p.Addr, n) == bit(q.Addr, n) {
		n++
	}
	c, _ := addr.Plain(api.Prefix{Addr: p.Addr, Bits: n}) // p is right, and n no more than its bits
	return c
}

// bit tells the bit at a place, from 0 on, the highest one of the first byte first.
func bit(a []byte, at int) byte {
	return a[at/8] >> (7 - at%8) & 1
}
