package wire

import (
	"sallyport/addr"
	"sallyport/api"
)

// How many bytes of an address stand in a packet.
const (
	width4 = 4
	width6 = 16
)

// family tells where in a network header what is common to both families stands.
type family struct {
	v6                             bool
	size, ttl, proto, addrs, width int
}

func familyOf(v6 bool) family {
	if v6 {
		return family{v6: true, size: 40, ttl: 7, proto: 6, addrs: 8, width: width6}
	}
	return family{size: 20, ttl: 8, proto: 9, addrs: 12, width: width4}
}

// has tells whether all of l are addresses of the family.
func (f family) has(l ...api.Addr) bool {
	for _, a := range l {
		if addr.Is4(a) == f.v6 {
			return false
		}
	}
	return true
}

// carries tells whether a protocol may stand in the family's packets: each family has an ICMP of its own.
func (f family) carries(proto int) bool {
	if f.v6 {
		return proto != api.ProtoICMP
	}
	return proto != api.ProtoICMP6
}

// addresses answers the source and the destination of a packet.
func (f family) addresses(p []byte) [2]api.Addr {
	var l [2]api.Addr
	for i := range len(l) {
		at := f.addrs + f.width*i
		l[i] = readAddr(p[at : at+f.width])
	}
	return l
}

// setAddresses lays source and destination down, and makes the header's sum anew: only an IPv4 header has one.
func (f family) setAddresses(p []byte, l [2]api.Addr) {
	for i := range len(l) {
		at := f.addrs + f.width*i
		putAddr(p[at:at+f.width], l[i])
	}
	if !f.v6 {
		setSum(p[:f.size], sum4)
	}
}

func isByte(n int) bool { return n >= 0 && n <= 255 }

// havePorts tells whether all of l may be ports.
func havePorts(l ...api.Key) bool {
	for _, k := range l {
		for _, port := range [2]int{k.SPort, k.DPort} {
			if port < 0 || port > 65535 {
				return false
			}
		}
	}
	return true
}
