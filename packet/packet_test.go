package packet

import (
	"bytes"
	"math/rand"
	"slices"
	"testing"

	"snicket/api"
)

// check holds Read, Trim and Data of b against the model.
func check(t *testing.T, b []byte) {
	t.Helper()
	h, trim, data, e := modelRead(b)
	if got, code := Read(b); !sameHeader(got, h) || code != e {
		t.Fatalf("Read of %d bytes, %x = %v, %d, not %v, %d", len(b), b[:min(len(b), 64)], got, code, h, e)
	}
	if got, code := Trim(b); !bytes.Equal(got, trim) || code != e {
		t.Fatalf("Trim of %d bytes, %x = %d bytes, %d, not %d, %d", len(b), b[:min(len(b), 64)], len(got), code, len(trim), e)
	}
	if got, code := Data(b); !bytes.Equal(got, data) || code != e {
		t.Fatalf("Data of %d bytes, %x = %d bytes, %d, not %d, %d", len(b), b[:min(len(b), 64)], len(got), code, len(data), e)
	}
}

// fails holds Read, Trim and Data of b against an error, with nothing beside it.
func fails(t *testing.T, what string, b []byte, want api.Code) {
	t.Helper()
	if h, e := Read(b); e != want || !sameHeader(h, api.Header{}) {
		t.Errorf("%s: Read = %v, %d, not %d", what, h, e, want)
	}
	if l, e := Trim(b); e != want || len(l) != 0 {
		t.Errorf("%s: Trim = %v, %d, not %d", what, l, e, want)
	}
	if l, e := Data(b); e != want || len(l) != 0 {
		t.Errorf("%s: Data = %v, %d, not %d", what, l, e, want)
	}
}

// reads holds Read, Trim and Data of b against what is written out.
func reads(t *testing.T, what string, b []byte, h api.Header, data []byte) {
	t.Helper()
	if got, e := Read(b); e != api.Fine || !sameHeader(got, h) {
		t.Errorf("%s: Read = %v, %d, not %v", what, got, e, h)
	}
	if l, e := Trim(b); e != api.Fine || !bytes.Equal(l, b[:h.Len]) {
		t.Errorf("%s: Trim = %v, %d", what, l, e)
	}
	if l, e := Data(b); e != api.Fine || !bytes.Equal(l, data) {
		t.Errorf("%s: Data = %v, %d, not %v", what, l, e, data)
	}
}

// P5.1: packets by hand, with every byte of another value than its neighbours.
func TestReadByHand(t *testing.T) {
	from, to := []byte{10, 0, 0, 1}, []byte{192, 168, 7, 255}
	four := []byte{0x45, 0x11, 0, 23, 0x22, 0x33, 0x44, 0x55, 0x66, 0x77, 0x88, 0x99, 10, 0, 0, 1, 192, 168, 7, 255, 0xa1, 0xa2, 0xa3}
	reads(t, "version 4", four, api.Header{Version: 4, Src: from, Dst: to, Len: 23}, []byte{0xa1, 0xa2, 0xa3})
	reads(t, "filling behind", append(bytes.Clone(four), 9, 8, 7), api.Header{Version: 4, Src: from, Dst: to, Len: 23}, []byte{0xa1, 0xa2, 0xa3})
	long := bytes.Clone(four)
	long[0], long[3] = 0x46, 25
	long = append(long, 0xa4, 0xa5, 0xa6)
	reads(t, "a beginning of 6 fours", long, api.Header{Version: 4, Src: from, Dst: to, Len: 25}, []byte{0xa5})
	six := []byte{0x6c, 0xdd, 0xee, 0xff, 0, 3, 17, 64}
	one := []byte{0xfd, 0, 1, 2, 3, 4, 5, 6, 7, 8, 9, 10, 11, 12, 13, 14}
	two := []byte{0xfe, 0x80, 21, 22, 23, 24, 25, 26, 27, 28, 29, 30, 31, 32, 33, 34}
	six = slices.Concat(six, one, two, []byte{0xb1, 0xb2, 0xb3})
	reads(t, "version 6", six, api.Header{Version: 6, Src: one, Dst: two, Len: 43}, []byte{0xb1, 0xb2, 0xb3})
	reads(t, "filling behind", append(bytes.Clone(six), 0), api.Header{Version: 6, Src: one, Dst: two, Len: 43}, []byte{0xb1, 0xb2, 0xb3})
	six[5] = 0
	reads(t, "nothing follows", six, api.Header{Version: 6, Src: one, Dst: two, Len: 40}, nil)
}

// P5.1: Short of no bytes; Form of any version but 4 and 6, however many bytes there are.
func TestReadOtherVersions(t *testing.T) {
	fails(t, "nil", nil, api.Short)
	fails(t, "no bytes", []byte{}, api.Short)
	fails(t, "no bytes, with room", make([]byte, 0, 64), api.Short)
	for first := range 256 {
		for _, n := range []int{1, 2, 3, 4, 19, 20, 39, 40, 41, 60, 100, 2000, 70000} {
			b := make([]byte, n)
			b[0] = byte(first)
			want := api.Form // of version 4 both for no fours and for a length of 0
			if version := first / 16; version == 4 && n < 20 || version == 6 && n < 40 {
				want = api.Short
			} else if version == 6 {
				continue
			}
			fails(t, "the first byte, and noughts", b, want)
		}
	}
}

// P5.1: fewer than 20, of version 4, or 40, of version 6, are Short, whatever they tell.
func TestReadTooFewBytes(t *testing.T) {
	r := rand.New(rand.NewSource(1))
	for fours := range 16 {
		for _, told := range []int{0, 1, 16, 19, 20, 21, 40, 60, 65535} {
			for n := 1; n < 20; n++ {
				fails(t, "version 4", fourOf(r, n, fours, told), api.Short)
			}
			for n := 1; n < 40; n++ {
				fails(t, "version 6", sixOf(r, n, fours, told), api.Short)
			}
		}
	}
}

// P5.1: beginnings of each number of fours, lengths around them, and how many bytes there are around both.
func TestReadEdges(t *testing.T) {
	r := rand.New(rand.NewSource(2))
	for fours := range 16 {
		begin := 4 * fours
		for _, c := range []struct {
			n, length int
			want      api.Code
		}{
			{60, begin, api.Fine}, {61, begin + 1, api.Fine}, {64, 64, api.Fine}, {64, begin, api.Fine}, {60, 60, api.Fine}, {2000, 2000, api.Fine}, {2000, begin, api.Fine},
			{max(begin, 20), begin, api.Fine}, {max(begin, 20) + 1, begin + 1, api.Fine}, {65535, 65535, api.Fine}, {70000, 65535, api.Fine}, {300, 256, api.Fine}, {300, 255, api.Fine}, {300, 257, api.Fine},
			{60, begin - 1, api.Form}, {60, 0, api.Form}, {60, 4, api.Form}, {60, 19, api.Form}, {2000, begin - 1, api.Form}, {max(begin, 20), begin - 1, api.Form},
			{max(begin, 20), max(begin, 20) + 1, api.Short}, {64, 65, api.Short}, {64, 65535, api.Short}, {64, 64 << 8, api.Short}, {65534, 65535, api.Short}, {299, 300, api.Short}, {255, 256, api.Short},
		} {
			b := fourOf(r, c.n, fours, max(c.length, 0))
			want := c.want
			if fours < 5 || c.length < begin {
				want = api.Form
			}
			if want == api.Fine {
				reads(t, "version 4", b, api.Header{Version: 4, Src: b[12:16], Dst: b[16:20], Len: c.length}, b[begin:c.length])
				continue
			}
			fails(t, "version 4", b, want)
		}
		for _, follow := range []int{0, 1, 2, 20, 39, 40, 255, 256, 257, 1960, 1961, 65535} {
			b := sixOf(r, 40+follow, fours, follow)
			h := api.Header{Version: 6, Src: b[8:24], Dst: b[24:40], Len: 40 + follow}
			reads(t, "version 6", b, h, b[40:])
			if follow > 0 {
				fails(t, "version 6, a byte too few", b[:len(b)-1], api.Short)
				fails(t, "version 6, just the beginning", b[:40], api.Short)
			}
			b = append(b, random(r, 1+r.Intn(70))...)
			reads(t, "version 6, filling", b, h, b[40:40+follow])
		}
	}
}

// P5.1: of two errors the first one is told.
func TestReadWhichComesFirst(t *testing.T) {
	r := rand.New(rand.NewSource(3))
	for _, c := range []struct {
		what string
		b    []byte
		want api.Code
	}{
		{"another version, of few bytes", []byte{0x50}, api.Form}, {"another version, of few bytes", []byte{0x05, 0, 0}, api.Form},
		{"few bytes, no fours", fourOf(r, 19, 0, 19), api.Short}, {"few bytes, 4 fours", fourOf(r, 19, 4, 19), api.Short}, {"few bytes, a length below the beginning", fourOf(r, 19, 5, 3), api.Short}, {"few bytes, just the first one", []byte{0x45}, api.Short},
		{"4 fours, a length of more than there is", fourOf(r, 20, 4, 21), api.Form}, {"no fours, a length of more than there is", fourOf(r, 20, 0, 65535), api.Form}, {"4 fours, a length of just as many", fourOf(r, 20, 4, 16), api.Form},
		{"a beginning of more than there is, a length below it", fourOf(r, 20, 15, 20), api.Form}, {"likewise, a length of just one less", fourOf(r, 20, 6, 23), api.Form}, {"likewise, a length of more than there is", fourOf(r, 20, 15, 59), api.Form},
		{"a beginning of more than there is, of just the length", fourOf(r, 20, 6, 24), api.Short}, {"likewise, of one byte more than there is", fourOf(r, 59, 15, 60), api.Short}, {"a beginning and a length of more than there is", fourOf(r, 20, 15, 65535), api.Short},
		{"few bytes, more that follow", sixOf(r, 39, 0, 65535), api.Short}, {"few bytes, nothing that follows", sixOf(r, 39, 0, 0), api.Short},
	} {
		fails(t, c.what, c.b, c.want)
		check(t, c.b)
	}
}

// P5.1: all first bytes, with many lengths, told and real ones, as the model.
func TestReadAsTheModel(t *testing.T) {
	r := rand.New(rand.NewSource(4))
	fine := 0
	for first := range 256 {
		for n := range 70 {
			b := random(r, n)
			if n > 0 {
				b[0] = byte(first)
			}
			check(t, b)
			for told := range 80 {
				for _, high := range []byte{0, 1} {
					if n > 5 {
						b[2], b[3], b[4], b[5] = high, byte(told), high, byte(told)
					}
					check(t, b)
					if _, e := Read(b); e == api.Fine {
						fine++
					}
				}
			}
		}
	}
	if fine < 10000 {
		t.Errorf("just %d were read", fine)
	}
}

// P5.3: filling changes nothing, however much there is and whatever it is.
func TestFillingChangesNothing(t *testing.T) {
	r := rand.New(rand.NewSource(5))
	for range 3000 {
		b := fourOf(r, 20+r.Intn(100), 5+r.Intn(11), 0)
		if r.Intn(2) == 0 {
			b = sixOf(r, 40+r.Intn(100), r.Intn(16), 0)
			b[5] = byte(len(b) - 40)
		} else {
			b = append(b, make([]byte, max(0, 4*int(b[0]&15)-len(b)))...)
			b[3] = byte(len(b))
		}
		h, e := Read(b)
		data, _ := Data(b)
		if e != api.Fine || h.Len != len(b) {
			t.Fatalf("Read(%x) = %v, %d", b, h, e)
		}
		for _, filled := range [][]byte{Pad(b, 1+r.Intn(64)), append(bytes.Clone(b), random(r, 1+r.Intn(300))...), append(bytes.Clone(b), b...), append(bytes.Clone(b), make([]byte, 70000)...)} {
			got, code := Read(filled)
			trim, _ := Trim(filled)
			behind, _ := Data(filled)
			if code != api.Fine || !sameHeader(got, h) || !bytes.Equal(trim, b) || !bytes.Equal(behind, data) {
				t.Fatalf("%x, and %d bytes of filling: %v, %d, %x, %x", b, len(filled)-len(b), got, code, trim, behind)
			}
		}
	}
}

// R4: what is handed in stays as it is, and isn't kept; what is told is the caller's, each list for itself.
func TestReadIsNotShared(t *testing.T) {
	r := rand.New(rand.NewSource(6))
	for _, b := range [][]byte{fourOf(r, 30, 5, 24), fourOf(r, 20, 5, 20), fourOf(r, 60, 15, 60), sixOf(r, 60, 3, 9), sixOf(r, 40, 3, 0)} {
		room := append(bytes.Clone(b), random(r, 40)...)
		was := bytes.Clone(room)
		want, wantTrim, wantData, _ := modelRead(bytes.Clone(b))
		h, _ := Read(room[:len(b)])
		trim, _ := Trim(room[:len(b)])
		data, _ := Data(room[:len(b)])
		if !bytes.Equal(room, was) {
			t.Fatalf("handed in: %x, not %x", room, was)
		}
		clear(room)
		if !sameHeader(h, want) || !bytes.Equal(trim, wantTrim) || !bytes.Equal(data, wantData) {
			t.Errorf("told: %v, %x, %x, later", h, trim, data)
		}
		wipe(h.Src)
		if !bytes.Equal(h.Dst, want.Dst) {
			t.Errorf("whence, and where to, are the same memory")
		}
		wipe(h.Dst)
		if !bytes.Equal(trim, wantTrim) || !bytes.Equal(data, wantData) {
			t.Errorf("later calls tell the same memory")
		}
	}
}

// wipe changes all bytes of a list, and those behind it that it has room for.
func wipe(l []byte) {
	l = l[:cap(l)]
	for i := range l {
		l[i] ^= 0xff
	}
}
