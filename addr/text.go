package addr

import (
	"strconv"
	"strings"

	"sallyport/api"
	"sallyport/decimal"
)

// An address as text: groups of 16 bits, or four bytes.
const (
	groupCount = 8
	groupBits  = 16
	byteCount  = 4
	maxText    = 39 // eight groups of four digits, and what stands between them
)

// groups are an address's bits, the highest first.
type groups [groupCount]uint16

// Print answers a's text.
func Print(a api.Addr) string {
	if Is4(a) {
		return print4(uint32(a.Lo))
	}
	g := groupsOf(a)
	from, to := longestRow(g)
	if from == to {
		return join(g[:])
	}
	return join(g[:from]) + "::" + join(g[to:])
}

// Parse answers the address whose Print is s.
func Parse(s string) (api.Addr, api.Errno) {
	a, ok := read(s)
	// An address has one text, but what reads texts takes others, too: noughts ahead, great letters, a row that is not left away.
	if !ok || Print(a) != s {
		return api.Addr{}, api.ErrAddr
	}
	return a, api.OK
}

// PrintRange answers r's text, as ParseRange takes it.
func PrintRange(r api.Range) (string, api.Errno) {
	bits, isPrefix := prefixBits(r)
	switch {
	case Compare(r.From, r.To) > 0 || Is4(r.From) != Is4(r.To):
		return "", api.ErrRange
	case r.From == r.To:
		return Print(r.From), api.OK
	case isPrefix:
		return Print(r.From) + "/" + strconv.Itoa(bits), api.OK
	}
	return Print(r.From) + "-" + Print(r.To), api.OK
}

// ParseRange answers the range that s tells: an address with its first bits, two addresses, or one alone.
func ParseRange(s string) (api.Range, api.Errno) {
	head, bits, slash := strings.Cut(s, "/")
	from, to, dash := strings.Cut(s, "-")
	switch {
	case slash:
		return parsePrefix(head, bits)
	case dash:
		return parseEnds(from, to)
	}
	a, e := Parse(s)
	return api.Range{From: a, To: a}, e
}

func parsePrefix(head, bits string) (api.Range, api.Errno) {
	a, e := Parse(head)
	if e != api.OK {
		return api.Range{}, e
	}
	n, ok := decimal.Parse(bits)
	if !ok {
		return api.Range{}, api.ErrRange
	}
	return Prefix(a, n)
}

func parseEnds(from, to string) (api.Range, api.Errno) {
	a, e := Parse(from)
	if e != api.OK {
		return api.Range{}, e
	}
	b, e := Parse(to)
	if e != api.OK {
		return api.Range{}, e
	}
	if Is4(a) != Is4(b) || Compare(a, b) > 0 {
		return api.Range{}, api.ErrRange
	}
	return api.Range{From: a, To: b}, api.OK
}

func print4(n uint32) string {
	var b []byte
	for i := range byteCount {
		if i > 0 {
			b = append(b, '.')
		}
		b = strconv.AppendUint(b, uint64(byte(n>>(24-8*i))), 10)
	}
	return string(b)
}

// join answers the groups of l with a colon between.
func join(l []uint16) string {
	var b []byte
	for i, n := range l {
		if i > 0 {
			b = append(b, ':')
		}
		b = strconv.AppendUint(b, uint64(n), 16)
	}
	return string(b)
}

// longestRow answers from where on, and up to where, the first of the longest rows of groups that are 0 goes; the same twice, if no row has two.
func longestRow(g groups) (int, int) {
	from, to, start := 0, 0, 0
	for i, n := range g {
		if n != 0 {
			start = i + 1
		} else if size := i + 1 - start; size > max(1, to-from) {
			from, to = start, i+1
		}
	}
	return from, to
}

func groupsOf(a api.Addr) groups {
	var g groups
	for i := range groupCount / 2 {
		shift := 64 - groupBits*(i+1)
		g[i] = uint16(a.Hi >> shift)
		g[groupCount/2+i] = uint16(a.Lo >> shift)
	}
	return g
}

// addr answers the address whose groups they are.
func (g groups) addr() api.Addr {
	var a api.Addr
	for i := range groupCount / 2 {
		a.Hi = a.Hi<<groupBits | uint64(g[i])
		a.Lo = a.Lo<<groupBits | uint64(g[groupCount/2+i])
	}
	return a
}

// read takes the text of each address, and some that are none.
func read(s string) (api.Addr, bool) {
	switch {
	case len(s) > maxText:
		return api.Addr{}, false
	case strings.Contains(s, ":"):
		return read6(s)
	}
	return read4(s)
}

func read4(s string) (api.Addr, bool) {
	parts := strings.Split(s, ".")
	if len(parts) != byteCount {
		return api.Addr{}, false
	}
	var n uint32
	for _, p := range parts {
		b, err := strconv.ParseUint(p, 10, 8)
		if err != nil {
			return api.Addr{}, false
		}
		n = n<<8 | uint32(b)
	}
	return Of4(n), true
}

// read6 lays the groups ahead of a row that is left away at an array's begin, those behind it at its end: the row is what stays 0 between.
func read6(s string) (api.Addr, bool) {
	ahead, behind, _ := strings.Cut(s, "::")
	head, ok := readGroups(ahead)
	if !ok {
		return api.Addr{}, false
	}
	tail, ok := readGroups(behind)
	if !ok || len(head)+len(tail) > groupCount {
		return api.Addr{}, false
	}
	var g groups
	copy(g[:], head)
	copy(g[groupCount-len(tail):], tail)
	return g.addr(), true
}

// readGroups reads groups with a colon between; of an empty text none.
func readGroups(s string) ([]uint16, bool) {
	if s == "" {
		return nil, true
	}
	var l []uint16
	for _, p := range strings.Split(s, ":") {
		n, err := strconv.ParseUint(p, 16, groupBits)
		if err != nil {
			return nil, false
		}
		l = append(l, uint16(n))
	}
	return l, true
}
