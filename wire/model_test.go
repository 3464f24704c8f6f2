package wire

import (
	"encoding/binary"
	"math/rand"
	"reflect"
	"slices"
	"strings"

	"snicket/api"
	"snicket/term"
)

// The model goes through api's type by the names that the chapter's rows have, and takes bytes off one place after the other.

// modelRow tells the names of a kind's fields, and whether there is such a kind.
func modelRow(kind int) ([]string, bool) {
	l, ok := map[int]string{
		1: "Sender Eph Static Stamp Mac1 Mac2",
		2: "Sender Receiver Eph Empty Mac1 Mac2",
		3: "Receiver Nonce Cookie",
		4: "Receiver Counter Data",
	}[kind]
	return strings.Fields(l), ok
}

// names are those of all fields but Kind.
func names() []string {
	var l []string
	for f := range reflect.TypeFor[api.Message]().Fields() {
		if f.Name != "Kind" {
			l = append(l, f.Name)
		}
	}
	return l
}

// at tells the field with that name.
func at(m *api.Message, name string) reflect.Value {
	return reflect.ValueOf(m).Elem().FieldByName(name)
}

// isTerm tells whether a field with that name holds a term.
func isTerm(name string) bool {
	return at(&api.Message{}, name).Kind() == reflect.String
}

// with tells m with another value in that field: a text, or a number.
func with(m api.Message, name string, value any) api.Message {
	v := at(&m, name)
	if t, ok := value.(string); ok {
		v.SetString(t)
	} else {
		v.SetUint(reflect.ValueOf(value).Convert(reflect.TypeFor[uint64]()).Uint())
	}
	return m
}

// raw writes what would be the bytes of a message, whether it is one or not.
func raw(m api.Message) []byte {
	l, _ := modelRow(m.Kind)
	b := []byte{byte(m.Kind), 0, 0, 0}
	for _, name := range l {
		v := at(&m, name)
		switch v.Kind() {
		case reflect.Uint32:
			b = binary.LittleEndian.AppendUint32(b, uint32(v.Uint()))
		case reflect.Uint64:
			b = binary.LittleEndian.AppendUint64(b, v.Uint())
		default:
			b = binary.LittleEndian.AppendUint16(b, uint16(v.Len()))
			b = append(b, v.String()...)
		}
	}
	return b
}

// modelPrint tells what Print should tell.
func modelPrint(m api.Message) ([]byte, api.Code) {
	l, ok := modelRow(m.Kind)
	for _, name := range names() {
		v := at(&m, name)
		if !slices.Contains(l, name) {
			ok = ok && v.IsZero()
		} else if isTerm(name) {
			ok = ok && v.Len() < 1<<16 && term.Kind(v.String()) != 0
		}
	}
	if !ok {
		return nil, api.Form
	}
	return raw(m), api.Fine
}

// modelRead tells what Read should tell.
func modelRead(b []byte) (m api.Message, e api.Code) {
	left := b
	take := func(n int) []byte {
		if len(left) < n {
			panic(api.Short)
		}
		taken := left[:n]
		left = left[n:]
		return taken
	}
	defer func() {
		if thrown := recover(); thrown != nil {
			m, e = api.Message{}, thrown.(api.Code)
		}
	}()
	m.Kind = int(take(1)[0])
	l, ok := modelRow(m.Kind)
	if !ok {
		return api.Message{}, api.Form
	}
	for range 3 {
		if take(1)[0] != 0 {
			return api.Message{}, api.Form
		}
	}
	for _, name := range l {
		v := at(&m, name)
		switch v.Kind() {
		case reflect.Uint32:
			v.SetUint(uint64(binary.LittleEndian.Uint32(take(4))))
		case reflect.Uint64:
			v.SetUint(binary.LittleEndian.Uint64(take(8)))
		default:
			v.SetString(string(take(int(binary.LittleEndian.Uint16(take(2))))))
			if term.Kind(v.String()) == 0 {
				return api.Message{}, api.Form
			}
		}
	}
	if len(left) > 0 {
		return api.Message{}, api.Long
	}
	return m, api.Fine
}

// modelTerms, modelBody and modelSigned tell what Terms, Body and Signed should tell.
func modelTerms(m api.Message) []string {
	if _, e := modelPrint(m); e != api.Fine {
		return nil
	}
	l, _ := modelRow(m.Kind)
	var out []string
	for _, name := range l {
		if isTerm(name) {
			out = append(out, at(&m, name).String())
		}
	}
	return out
}

func modelBody(m api.Message) string {
	l := modelTerms(m)
	if l == nil || m.Kind > 2 {
		return ""
	}
	l = append([]string{"n" + text10(uint64(m.Kind)), "n" + text10(uint64(m.Sender)), "n" + text10(uint64(m.Receiver))}, l[:len(l)-2]...)
	return atMost(65536, "l("+strings.Join(l, ",")+")")
}

func modelSigned(m api.Message) string {
	body := modelBody(m)
	if body == "" {
		return ""
	}
	return atMost(65536, "l("+body+","+m.Mac1+")")
}

// text10 tells a number's digits.
func text10(u uint64) string {
	if u < 10 {
		return string(rune('0' + u))
	}
	return text10(u/10) + text10(u%10)
}

// atMost tells a text, or the empty one instead of one that is longer than that.
func atMost(size int, t string) string {
	if len(t) > size {
		return ""
	}
	return t
}

// fill tells a term of just so many bytes, 1 or more, but 2.
func fill(size int) string {
	if size%2 == 1 {
		return "x" + strings.Repeat("0a", size/2)
	}
	return "p(" + fill(size-3) + ")"
}

// some are terms of all kinds.
func some() []string {
	return []string{
		"0", "a0", "a4294967295", "n0", "n18446744073709551615", "x", "x00", "xff00", "p(a1)", "d(a0,a1)", "h(0)", "h(a1,a2,a3)", "k(1,a1,0)", "k(3,l(),x00)",
		"m(a1,a2)", "s(0,a1,a2,0)", "s(18446744073709551615,k(2,a1,a2),x0aff,h(0,0))", "l()", "l(0)", "l(l(),l(a1,x))", fill(255), fill(256), fill(257), fill(4096),
	}
}

// noTerms are texts that are none, which fit into two bytes' length.
func noTerms() []string {
	return []string{
		"", " ", "\x00", "b", "a", "a01", "a4294967296", "n18446744073709551616", "00", "0 ", " 0", "0,0", "x0", "x0A", "xg", "p()", "p(0", "p(0))", "p(a1,a2)", "d(a1,a0)", "h()", "k(0,a1,a2)", "k(4,a1,a2)",
		"m(0)", "s(0,0,0)", "l(", "l(0,)", "L()", "\xff", "\u0663", "init", strings.Repeat("0", 255), strings.Repeat("0", 256), strings.Repeat("p(", 300), fill(65535)[:65534],
	}
}

// ends are numbers at their types' ends, and such of which each byte is another one.
func ends() []uint64 {
	return []uint64{0, 1, 7, 255, 256, 1<<16 - 1, 1 << 16, 1 << 24, 0x04030201, 1<<31 - 1, 1 << 31, 1<<32 - 1, 1 << 32, 0x0807060504030201, 1<<63 - 1, 1 << 63, api.MaxCount, 1<<64 - 1}
}

// someMessage tells a message of that kind, all fields of its row at random.
func someMessage(r *rand.Rand, kind int) api.Message {
	m := api.Message{Kind: kind}
	l, _ := modelRow(kind)
	for _, name := range l {
		if isTerm(name) {
			m = with(m, name, some()[r.Intn(len(some()))])
			continue
		}
		u := ends()[r.Intn(len(ends()))]
		if r.Intn(3) == 0 {
			u = r.Uint64()
		}
		if name != "Counter" {
			u &= 1<<32 - 1
		}
		m = with(m, name, u)
	}
	return m
}
