package wire

import (
	"sallyport/addr"
	"sallyport/api"
)

// pair are two numbers of one width, one behind the other.
type pair [2]uint64

// places are where in a body the ports of source and destination stand.
type places [2]int

const portWidth = 2

// number answers the number whose bytes b are, the highest first.
func number(b []byte) uint64 {
	var n uint64
	for _, x := range b {
		n = n<<8 | uint64(x)
	}
	return n
}

// put lays n's lowest bytes down, as many as b has, the highest first.
func put(b []byte, n uint64) {
	for i := range len(b) {
		b[len(b)-1-i] = byte(n >> (8 * i))
	}
}

// add adds n to the number whose bytes b are; what is too large for them is lost.
func add(b []byte, n uint32) { put(b, number(b)+uint64(n)) }

func readPair(b []byte, width int) pair {
	var p pair
	for i := range len(p) {
		p[i] = number(b[width*i : width*(i+1)])
	}
	return p
}

func putPair(b []byte, width int, p pair) {
	for i := range len(p) {
		put(b[width*i:width*(i+1)], p[i])
	}
}

// readAddr answers the address whose bytes b are, all of an IPv6 address, or an IPv4 address's own.
func readAddr(b []byte) api.Addr {
	if len(b) == width4 {
		return addr.Of4(uint32(number(b)))
	}
	p := readPair(b, width6/2)
	return api.Addr{Hi: p[0], Lo: p[1]}
}

func putAddr(b []byte, a api.Addr) {
	if len(b) == width4 {
		put(b, a.Lo)
		return
	}
	putPair(b, width6/2, pair{a.Hi, a.Lo})
}

// addrBytes answers a's bytes, as many as its own family has.
func addrBytes(a api.Addr) []byte {
	b := make([]byte, familyOf(!addr.Is4(a)).width)
	putAddr(b, a)
	return b
}

// portPlaces answers where in a body its ports stand; false, if it has none. An echo has one number for both.
func portPlaces(body []byte, v6 bool, proto int) (places, bool) {
	switch proto {
	case api.ProtoTCP, api.ProtoUDP:
		return places{0, portWidth}, true
	case api.ProtoICMP, api.ProtoICMP6:
		if isEcho(v6, int(body[0])) {
			return places{4, 4}, true
		}
	}
	return places{}, false
}

// isEcho tells whether an ICMP type is that of an echo, the request or the answer.
func isEcho(v6 bool, kind int) bool {
	if v6 {
		return kind == 128 || kind == 129
	}
	return kind == 8 || kind == 0
}

// read answers the ports that stand at the places.
func (p places) read(body []byte) (sport, dport int) {
	var l [2]int
	for i := range len(p) {
		l[i] = int(number(body[p[i] : p[i]+portWidth]))
	}
	return l[0], l[1]
}

// put lays a key's ports down. The source's is the last one, as it is what counts where both have one place.
func (p places) put(body []byte, k api.Key) {
	ports := [2]int{k.SPort, k.DPort}
	for i := range len(p) {
		n := len(p) - 1 - i
		put(body[p[n]:p[n]+portWidth], uint64(ports[n]))
	}
}
