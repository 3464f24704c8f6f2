package packet

import (
	"bytes"
	"math"
	"math/rand"
	"testing"

	"snicket/api"
)

// P5.2: the chapter's example, and others by hand.
func TestMakeByHand(t *testing.T) {
	b, e := Make([]byte{10, 0, 0, 1}, []byte{10, 0, 0, 2}, []byte{7})
	if want := []byte{69, 0, 0, 21, 0, 0, 0, 0, 0, 0, 0, 0, 10, 0, 0, 1, 10, 0, 0, 2, 7}; !bytes.Equal(b, want) || e != api.Fine {
		t.Errorf("%v, %d, not %v", b, e, want)
	}
	b, e = Make([]byte{1, 2, 3, 4}, []byte{5, 6, 7, 8}, nil)
	if want := []byte{69, 0, 0, 20, 0, 0, 0, 0, 0, 0, 0, 0, 1, 2, 3, 4, 5, 6, 7, 8}; !bytes.Equal(b, want) || e != api.Fine {
		t.Errorf("%v, %d, not %v", b, e, want)
	}
	one := []byte{1, 2, 3, 4, 5, 6, 7, 8, 9, 10, 11, 12, 13, 14, 15, 16}
	two := []byte{17, 18, 19, 20, 21, 22, 23, 24, 25, 26, 27, 28, 29, 30, 31, 32}
	b, e = Make(one, two, []byte{99, 98})
	if want := append(append(append([]byte{96, 0, 0, 0, 0, 2, 0, 0}, one...), two...), 99, 98); !bytes.Equal(b, want) || e != api.Fine {
		t.Errorf("%v, %d, not %v", b, e, want)
	}
	b, e = Make(two, one, bytes.Repeat([]byte{5}, 0x123))
	if want := append(append(append([]byte{96, 0, 0, 0, 1, 0x23, 0, 0}, two...), one...), bytes.Repeat([]byte{5}, 0x123)...); !bytes.Equal(b, want) || e != api.Fine {
		t.Errorf("%v, %d, not %v", b, e, want)
	}
	b, e = Make(one[:4], two[:4], make([]byte, 0x200))
	if len(b) != 0x214 || e != api.Fine || b[2] != 2 || b[3] != 0x14 {
		t.Errorf("%v, %d", b, e)
	}
}

// P5.2, P5.3: all counts of data that can be, and some over it; what is made is read.
func TestMakeAndRead(t *testing.T) {
	r := rand.New(rand.NewSource(11))
	for n := range 2100 {
		for _, size := range []int{4, 16} {
			src, dst, data := random(r, size), random(r, size), random(r, n)
			b, e := Make(src, dst, data)
			want, code := modelMake(src, dst, data)
			if !bytes.Equal(b, want) || e != code || (e == api.Fine) != (n <= api.MaxPacket-20 && size == 4 || n <= api.MaxPacket-40) {
				t.Fatalf("Make of addresses of %d bytes and %d bytes of data: %x, %d, not %x, %d", size, n, b, e, want, code)
			}
			if e != api.Fine {
				continue
			}
			h, e := Read(b)
			if e != api.Fine || !sameHeader(h, api.Header{Version: map[int]int{4: 4, 16: 6}[size], Src: src, Dst: dst, Len: len(b)}) {
				t.Fatalf("Read(Make(%v, %v, %d bytes)) = %v, %d", src, dst, n, h, e)
			}
			trim, e := Trim(b)
			got, code := Data(b)
			if !bytes.Equal(trim, b) || e != api.Fine || !bytes.Equal(got, data) || code != api.Fine {
				t.Fatalf("Trim and Data of Make(%v, %v, %d bytes) = %x, %d, %x, %d", src, dst, n, trim, e, got, code)
			}
			check(t, b)
		}
	}
}

// P5.2: Long of one byte over MaxPacket, and of any more.
func TestMakeLong(t *testing.T) {
	for _, c := range []struct {
		size, n int
		want    api.Code
	}{
		{4, 1979, api.Fine}, {4, 1980, api.Fine}, {4, 1981, api.Long}, {4, 2000, api.Long}, {4, 2001, api.Long}, {4, 65515, api.Long}, {4, 65516, api.Long}, {4, 65536, api.Long}, {4, 1 << 20, api.Long},
		{16, 1959, api.Fine}, {16, 1960, api.Fine}, {16, 1961, api.Long}, {16, 1980, api.Long}, {16, 2000, api.Long}, {16, 65535, api.Long}, {16, 65536, api.Long}, {16, 1 << 20, api.Long},
	} {
		b, e := Make(make([]byte, c.size), make([]byte, c.size), make([]byte, c.n))
		if e != c.want || e == api.Fine && len(b) != c.n+map[int]int{4: 20, 16: 40}[c.size] || e != api.Fine && len(b) != 0 {
			t.Errorf("addresses of %d bytes, %d bytes of data: %d bytes, %d, not %d", c.size, c.n, len(b), e, c.want)
		}
	}
}

// P5.2: Form, unless both have 4, or both 16, bytes: also if the data were too long.
func TestMakeForm(t *testing.T) {
	for _, m := range sizes() {
		for _, n := range sizes() {
			right := m == n && (m == 4 || m == 16)
			for _, data := range [][]byte{nil, {}, {1, 2, 3}, make([]byte, 1981), make([]byte, 2001), make([]byte, 70000)} {
				b, e := Make(make([]byte, m), make([]byte, n), data)
				if (e == api.Form) == right || !right && len(b) != 0 {
					t.Fatalf("addresses of %d and %d bytes, %d bytes of data: %d bytes, %d", m, n, len(data), len(b), e)
				}
			}
		}
	}
	for _, size := range []int{0, 4, 16} {
		a := make([]byte, size)
		for _, data := range [][]byte{nil, make([]byte, 2001)} {
			for _, pair := range [][2][]byte{{nil, a}, {a, nil}, {nil, nil}} {
				if b, e := Make(pair[0], pair[1], data); len(b) != 0 || e != api.Form {
					t.Errorf("nil, and %d bytes: %v, %d", size, b, e)
				}
			}
		}
	}
}

// P5.2: noughts behind, up to the next multiple; as it is, if n is below 1.
func TestPad(t *testing.T) {
	for _, c := range []struct{ size, n, want int }{
		{0, 16, 0}, {1, 16, 16}, {15, 16, 16}, {16, 16, 16}, {17, 16, 32}, {31, 16, 32}, {32, 16, 32}, {33, 16, 48}, {2000, 16, 2000}, {1999, 16, 2000}, {1985, 16, 2000}, {1984, 16, 1984},
		{0, 1, 0}, {1, 1, 1}, {7, 1, 7}, {2000, 1, 2000}, {7, 2, 8}, {8, 2, 8}, {7, 3, 9}, {9, 3, 9}, {10, 3, 12}, {7, 7, 7}, {6, 7, 7}, {8, 7, 14}, {1, 1000, 1000}, {1000, 1000, 1000}, {1001, 1000, 2000}, {3, 1 << 20, 1 << 20},
		{0, 0, 0}, {7, 0, 7}, {7, -1, 7}, {7, -2, 7}, {7, -16, 7}, {16, -16, 16}, {7, math.MinInt, 7}, {7, math.MinInt + 1, 7}, {7, math.MinInt32, 7}, {0, math.MinInt, 0}, {0, -1, 0}, {2000, math.MinInt, 2000}, {2000, -2000, 2000},
		{0, math.MaxInt, 0}, {0, math.MaxInt - 1, 0}, {0, math.MaxInt32, 0}, {0, 1 << 40, 0},
	} {
		b := bytes.Repeat([]byte{0xa5}, c.size)
		if got := Pad(b, c.n); len(got) != c.want || !bytes.Equal(got[:c.size], b) || !bytes.Equal(got[c.size:], make([]byte, c.want-c.size)) {
			t.Errorf("Pad of %d bytes to %d = %d bytes, %v, not %d", c.size, c.n, len(got), got[:min(len(got), 64)], c.want)
		}
	}
	for _, n := range []int{math.MinInt, -1, 0, 1, 2, 16, math.MaxInt} {
		if got := Pad(nil, n); len(got) != 0 {
			t.Errorf("Pad of nil to %d: %v", n, got)
		}
	}
}

// P5.2: the next multiple is a multiple, and none that isn't less has room for b.
func TestPadToTheNextMultiple(t *testing.T) {
	r := rand.New(rand.NewSource(12))
	for size := range 130 {
		b := random(r, size)
		for n := -5; n < 150; n++ {
			got := Pad(b, n)
			want := size
			for n > 0 && want%n > 0 {
				want++
			}
			if len(got) != want || !bytes.Equal(got, append(bytes.Clone(b), make([]byte, want-size)...)) {
				t.Fatalf("Pad(%x, %d) = %x", b, n, got)
			}
		}
	}
}

// P5.2, R1: up to the greatest result that the document bounds; of what goes beyond it there is nothing but that the call ends well.
func TestPadAtTheBound(t *testing.T) {
	const most = math.MaxInt32
	if got := Pad([]byte{9}, 1<<24); len(got) != 1<<24 || got[0] != 9 || !bytes.Equal(got[1:], make([]byte, 1<<24-1)) {
		t.Errorf("Pad of one byte to 2^24: %d bytes", len(got))
	}
	for _, c := range []struct{ size, n, want int }{{1, most, most - 1}, {most - 1, most, 1}, {most, most, 0}, {1, most - 1, most - 2}, {1 << 30, 1<<30 + 1, 1}, {1<<30 + 1, 1 << 30, 0}, {1 << 30, 1 << 30, 0}, {1<<30 - 1, 1 << 30, 1}} {
		if got := missing(c.size, c.n); got != c.want { // so much isn't laid out just to be counted
			t.Errorf("of %d bytes %d are missing to %d, not %d", c.size, got, c.n, c.want)
		}
	}
	for _, n := range []int{math.MaxInt, math.MaxInt - 1, math.MaxInt/2 + 1, math.MaxInt / 2, most * 2, most + 1} {
		for _, size := range []int{1, 2, 20, 2000} {
			b := bytes.Repeat([]byte{3}, size)
			if got := Pad(b, n); !bytes.Equal(got, b) {
				t.Errorf("Pad of %d bytes to %d: %d bytes", size, n, len(got))
			}
		}
	}
}

// R4: what is handed in stays as it is, and isn't kept; what is told is the caller's.
func TestMadeIsNotShared(t *testing.T) {
	r := rand.New(rand.NewSource(13))
	for _, size := range []int{4, 16} {
		for _, n := range []int{0, 1, 15, 16, 17, 1960} {
			room := random(r, 2*size+n+100)
			was := bytes.Clone(room)
			src, dst, data := room[:size], room[size:2*size], room[2*size:2*size+n]
			made, _ := Make(src, dst, data)
			want, _ := modelMake(was[:size], was[size:2*size], was[2*size:2*size+n])
			padded, same := Pad(data, 16), Pad(data, -1)
			if !bytes.Equal(room, was) {
				t.Fatalf("handed in: %x, not %x", room, was)
			}
			wipe(room)
			if !bytes.Equal(made, want) || !bytes.Equal(padded[:n], was[2*size:2*size+n]) || !bytes.Equal(same, was[2*size:2*size+n]) {
				t.Errorf("told: %x, %x, %x, later", made, padded, same)
			}
			was = bytes.Clone(room)
			wipe(made)
			wipe(padded)
			wipe(same)
			if !bytes.Equal(room, was) {
				t.Errorf("what is told is what was handed in")
			}
		}
	}
}
