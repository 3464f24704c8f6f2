package packet

import (
	"bytes"
	"encoding/binary"
	"math/rand"
	"slices"

	"snicket/api"
)

// The model writes all faults of a packet down, in the chapter's order, and takes the first that holds; bytes that aren't there are 0 to it.

// modelParts tells version, beginning and length of a packet, or its first fault.
func modelParts(b []byte) (version, begin, length int, e api.Code) {
	all := append(bytes.Clone(b), make([]byte, 64)...)
	version = int(all[0]) / 16
	least := map[int]int{4: 20, 6: 40}[version]
	begin, length = 40, 40+int(binary.BigEndian.Uint16(all[4:]))
	if version == 4 {
		begin, length = int(all[0])%16*4, int(binary.BigEndian.Uint16(all[2:]))
	}
	for _, fault := range []struct {
		holds bool
		code  api.Code
	}{
		{len(b) == 0, api.Short},
		{version != 4 && version != 6, api.Form},
		{len(b) < least, api.Short},
		{version == 4 && begin < 4*5, api.Form},
		{length < begin, api.Form},
		{begin > len(b), api.Short},
		{length > len(b), api.Short},
	} {
		if fault.holds {
			return 0, 0, 0, fault.code
		}
	}
	return version, begin, length, api.Fine
}

// modelRead tells what Read, Trim and Data should tell.
func modelRead(b []byte) (h api.Header, trim, data []byte, e api.Code) {
	version, begin, length, e := modelParts(b)
	if e != api.Fine {
		return api.Header{}, nil, nil, e
	}
	h = api.Header{Version: version, Src: b[12:16], Dst: b[16:20], Len: length}
	if version == 6 {
		h.Src, h.Dst = b[8:24], b[24:40]
	}
	return h, b[:length], b[begin:length], api.Fine
}

// modelMake lays the fields one behind the other.
func modelMake(src, dst, data []byte) ([]byte, api.Code) {
	var b []byte
	switch [2]int{len(src), len(dst)} {
	case [2]int{4, 4}:
		b = binary.BigEndian.AppendUint16([]byte{4*16 + 5, 0}, uint16(20+len(data)))
		b = append(b, 0, 0, 0, 0, 0, 0, 0, 0)
	case [2]int{16, 16}:
		b = binary.BigEndian.AppendUint16([]byte{6 * 16, 0, 0, 0}, uint16(len(data)))
		b = append(b, 0, 0)
	default:
		return nil, api.Form
	}
	b = slices.Concat(b, src, dst, data)
	if len(b) > 2000 {
		return nil, api.Long
	}
	return b, api.Fine
}

// fourOf tells n bytes of version 4, with a beginning of so many fours, that tell that length; all else is at random.
func fourOf(r *rand.Rand, n, fours, length int) []byte {
	b := random(r, max(n, 4))
	b[0] = byte(64 + fours)
	binary.BigEndian.PutUint16(b[2:], uint16(length))
	return b[:n]
}

// sixOf tells n bytes of version 6 that tell that so many follow the first 40; all else is at random.
func sixOf(r *rand.Rand, n, low, follow int) []byte {
	b := random(r, max(n, 6))
	b[0] = byte(96 + low)
	binary.BigEndian.PutUint16(b[4:], uint16(follow))
	return b[:n]
}

func random(r *rand.Rand, n int) []byte {
	b := make([]byte, n)
	r.Read(b)
	return b
}

// sameHeader holds two headers against each other.
func sameHeader(g, h api.Header) bool {
	return g.Version == h.Version && bytes.Equal(g.Src, h.Src) && bytes.Equal(g.Dst, h.Dst) && g.Len == h.Len
}

// sizes are counts of bytes that addresses have, and that none has.
func sizes() []int {
	l := []int{64, 128, 256, 260, 272, 65536, 65540, 65552}
	for n := range 40 {
		l = append(l, n)
	}
	return l
}
