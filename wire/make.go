package wire

import (
	"sallyport/addr"
	"sallyport/api"
)

// Packet answers a packet with that body, whose check sums are set.
func Packet(src, dst api.Addr, proto, ttl int, body []byte) ([]byte, api.Errno) {
	f := familyOf(!addr.Is4(src))
	total := f.size + len(body)
	if !f.has(dst) || !isByte(proto) || !isByte(ttl) || proto == api.ProtoFrag || !f.carries(proto) || total > api.MaxPacket {
		return nil, api.ErrArg
	}
	p := make([]byte, total)
	if f.v6 {
		p[0] = version6 << 4
		put(p[4:6], uint64(len(body)))
	} else {
		p[0] = version4<<4 | 5
		put(p[2:4], uint64(total))
		p[6] = 1 << 6 // do not part it
	}
	p[f.ttl], p[f.proto] = byte(ttl), byte(proto)
	f.setAddresses(p, [2]api.Addr{src, dst})
	copy(p[f.size:], body)
	setBodySum(p[f.size:], View{Proto: proto, Src: src, Dst: dst})
	return p, api.OK
}

// TCP answers a TCP header with data behind it, its check sum 0.
func TCP(sport, dport int, seq, ack uint32, flags, window int, data []byte) []byte {
	b := make([]byte, leastTCP+len(data))
	putPair(b, portWidth, pair{uint64(sport), uint64(dport)})
	putPair(b[seqTCP:], seqWidth, pair{uint64(seq), uint64(ack)})
	b[lengthTCP] = leastTCP / 4 << 4
	b[flagsTCP] = byte(flags)
	put(b[windowTCP:windowTCP+2], uint64(window))
	copy(b[leastTCP:], data)
	return b
}

// UDP answers a UDP header with data behind it, its check sum 0.
func UDP(sport, dport int, data []byte) []byte {
	b := make([]byte, sizeUDP+len(data))
	putPair(b, portWidth, pair{uint64(sport), uint64(dport)})
	put(b[4:6], uint64(len(b)))
	copy(b[sizeUDP:], data)
	return b
}
