package packet

import (
	"math"

	"snicket/api"
)

// Make tells a packet between two addresses, with data behind its beginning.
func Make(src, dst, data []byte) ([]byte, api.Code) {
	l, ok := bySize(len(src))
	if !ok || len(dst) != len(src) {
		return nil, api.Form
	}
	if len(data) > api.MaxPacket-l.least {
		return nil, api.Long
	}
	b := make([]byte, l.least+len(data))
	b[0] = l.first
	told := len(b) - l.untold
	b[l.told], b[l.told+1] = byte(told>>8), byte(told)
	copy(b[l.src:], src)
	copy(b[l.dst:], dst)
	copy(b[l.least:], data)
	return b, api.Fine
}

// Pad tells b with noughts behind, up to the next multiple of n, or as it is of an n below 1.
func Pad(b []byte, n int) []byte {
	out := make([]byte, len(b)+missing(len(b), n))
	copy(out, b)
	return out
}

// missing tells how many bytes are missing up to the next multiple of n.
func missing(size, n int) int {
	if n < 1 || size%n == 0 {
		return 0
	}
	m := n - size%n
	// The document promises nothing of results of 2^31 bytes or more, but no call may panic for want of memory.
	if m > math.MaxInt32-size {
		return 0
	}
	return m
}
