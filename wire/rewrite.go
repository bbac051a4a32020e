package wire

import (
	"slices"

	"sallyport/api"
)

// Options of TCP.
const (
	optionEnd  = 0
	optionNone = 1
	optionSack = 5 // selective acknowledgements
)

// Rewrite answers a packet with other addresses, ports, and numbers.
func Rewrite(b []byte, c Change) ([]byte, api.Errno) {
	v, t, e := open(b)
	if e != api.OK {
		return nil, e
	}
	f := familyOf(v.V6)
	if c.Key.Proto != v.Proto || !f.has(c.Key.Src, c.Key.Dst) || !havePorts(c.Key) || !isByte(c.TTL) {
		return nil, api.ErrArg
	}
	p := slices.Clone(b[:v.Total])
	body := p[v.Head:]
	f.readdress(p, c.Key, c.TTL)
	if at, ok := portPlaces(body, v.V6, v.Proto); ok {
		at.put(body, c.Key)
	}
	if v.Proto == api.ProtoTCP {
		shift(p[v.Head:t.Head], c)
	}
	if v.Proto == api.ProtoUDP && noSum(body) {
		return p, api.OK
	}
	v.Src, v.Dst = c.Key.Src, c.Key.Dst
	setBodySum(body, v)
	return p, api.OK
}

// readdress gives a packet the addresses of a key, and a TTL.
func (f family) readdress(p []byte, k api.Key, ttl int) {
	p[f.ttl] = byte(ttl)
	f.setAddresses(p, [2]api.Addr{k.Src, k.Dst})
}

// shift adds to the numbers of a TCP header.
func shift(head []byte, c Change) {
	add(head[seqTCP:seqTCP+seqWidth], c.SeqAdd)
	if head[flagsTCP]&Ack == 0 {
		return
	}
	add(head[ackTCP:ackTCP+seqWidth], c.AckAdd)
	for l := head[leastTCP:]; ; {
		size, ok := optionSize(l)
		if !ok {
			return
		}
		if l[0] == optionSack && size%8 == 2 {
			addAll(l[2:size], c.AckAdd)
		}
		l = l[size:]
	}
}

// optionSize answers how many bytes the first one of some options has; false, if there is none.
func optionSize(l []byte) (int, bool) {
	switch {
	case len(l) == 0 || l[0] == optionEnd:
		return 0, false
	case l[0] == optionNone:
		return 1, true
	case len(l) < 2 || l[1] < 2 || int(l[1]) > len(l):
		return 0, false
	}
	return int(l[1]), true
}

// addAll adds n to each number of a list.
func addAll(l []byte, n uint32) {
	for i := range len(l) / seqWidth {
		add(l[seqWidth*i:seqWidth*(i+1)], n)
	}
}
