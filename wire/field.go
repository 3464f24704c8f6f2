package wire

import (
	"math"

	"snicket/api"
	"snicket/term"
)

// field is one field of a message, bound to its place there.
type field struct {
	print func(b []byte) ([]byte, api.Code) // lays its bytes behind b
	read  func(b []byte) ([]byte, api.Code) // takes them off b's beginning, and tells what stands behind
	text  *string                           // the place of a term; nil, if it is none
}

// row tells all that stands behind the kind of such a message as m, in order; nothing, if there is no such kind.
func row(m *api.Message) []field {
	switch m.Kind {
	case api.Init:
		return []field{noughts(), whole(&m.Sender, 4), text(&m.Eph), text(&m.Static), text(&m.Stamp), text(&m.Mac1), text(&m.Mac2)}
	case api.Response:
		return []field{noughts(), whole(&m.Sender, 4), whole(&m.Receiver, 4), text(&m.Eph), text(&m.Empty), text(&m.Mac1), text(&m.Mac2)}
	case api.CookieMsg:
		return []field{noughts(), whole(&m.Receiver, 4), text(&m.Nonce), text(&m.Cookie)}
	case api.Transport:
		return []field{noughts(), whole(&m.Receiver, 4), whole(&m.Counter, 8), text(&m.Data)}
	}
	return nil
}

// noughts are the three 0 behind the kind.
func noughts() field {
	return field{
		print: func(b []byte) ([]byte, api.Code) { return lay(b, 0, 3), api.Fine },
		read:  readNoughts,
	}
}

// readNoughts looks at one byte after the other: a wrong one counts ahead of one that is missing behind it.
func readNoughts(b []byte) ([]byte, api.Code) {
	i := 0
next:
	if i == 3 {
		return b[i:], api.Fine
	}
	if i == len(b) {
		return nil, api.Short
	}
	if b[i] != 0 {
		return nil, api.Form
	}
	i++
	goto next
}

// whole is a number of so many bytes, which has its place at p.
func whole[T uint32 | uint64](p *T, size int) field {
	return field{
		print: func(b []byte) ([]byte, api.Code) { return lay(b, uint64(*p), size), api.Fine },
		read: func(b []byte) ([]byte, api.Code) {
			if len(b) < size {
				return nil, api.Short
			}
			*p = T(low(b[:size]))
			return b[size:], api.Fine
		},
	}
}

// text is a term, which has its place at p.
func text(p *string) field {
	return field{
		text: p,
		print: func(b []byte) ([]byte, api.Code) {
			if len(*p) > math.MaxUint16 {
				return nil, api.Form
			}
			return append(lay(b, uint64(len(*p)), 2), *p...), api.Fine
		},
		read: func(b []byte) ([]byte, api.Code) {
			t, behind, e := cut(b)
			if e == api.Fine && term.Kind(t) == 0 {
				return nil, api.Form
			}
			*p = t
			return behind, e
		},
	}
}

// cut takes a text off b's beginning, and tells it, and what stands behind.
func cut(b []byte) (string, []byte, api.Code) {
	if len(b) < 2 {
		return "", nil, api.Short
	}
	end := 2 + int(low(b[:2]))
	if len(b) < end {
		return "", nil, api.Short
	}
	return string(b[2:end]), b[end:], api.Fine
}

// walk does the same with each field, one after the other, and hands on the bytes that each one tells, till there is an error.
func walk(l []field, b []byte, do func(f field, b []byte) ([]byte, api.Code)) ([]byte, api.Code) {
	i, e := 0, api.Fine
next:
	if i == len(l) || e != api.Fine {
		return b, e
	}
	b, e = do(l[i], b)
	i++
	goto next
}

// texts tells what stands at the places of terms.
func texts(l []field) []string {
	var out []string
	i := 0
next:
	if i == len(l) {
		return out
	}
	if l[i].text != nil {
		out = append(out, *l[i].text)
	}
	i++
	goto next
}

// lay puts the size lowest bytes of u behind b, the lowest first.
func lay(b []byte, u uint64, size int) []byte {
next:
	if size == 0 {
		return b
	}
	b = append(b, byte(u))
	u >>= 8
	size--
	goto next
}

// low tells the number whose bytes b are, the lowest first.
func low(b []byte) uint64 {
	u, i := uint64(0), len(b)
next:
	if i == 0 {
		return u
	}
	i--
	u = u<<8 | uint64(b[i])
	goto next
}
