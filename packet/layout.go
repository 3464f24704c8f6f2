package packet

// layout is where things stand in the packets of one version.
type layout struct {
	version int
	first   byte // the first byte, if the beginning has no more bytes than it must
	least   int  // how many bytes the beginning has at least
	told    int  // where two bytes tell a length
	untold  int  // how many bytes, the first ones, that length leaves out
	src     int  // where it stands whence the packet comes
	dst     int  // where it stands where the packet goes
	size    int  // how many bytes an address has
}

func four() layout {
	return layout{version: 4, first: 69, least: 20, told: 2, untold: 0, src: 12, dst: 16, size: 4}
}

func six() layout {
	return layout{version: 6, first: 96, least: 40, told: 4, untold: 40, src: 8, dst: 24, size: 16}
}

// byVersion tells the layout of a version, and whether there is one.
func byVersion(version byte) (layout, bool) {
	switch version {
	case 4:
		return four(), true
	case 6:
		return six(), true
	}
	return layout{}, false
}

// bySize tells the layout for addresses of so many bytes, and whether there is one.
func bySize(size int) (layout, bool) {
	switch size {
	case 4:
		return four(), true
	case 16:
		return six(), true
	}
	return layout{}, false
}

// beginning tells how many bytes the beginning has, as a packet of at least the least bytes tells it.
func (l layout) beginning(b []byte) int {
	if l.version == 4 {
		return 4 * int(b[0]&15)
	}
	return l.least
}

// length tells how many bytes there are as a whole, as a packet of at least the least bytes tells it.
func (l layout) length(b []byte) int {
	return l.untold + int(b[l.told])<<8 + int(b[l.told+1])
}
