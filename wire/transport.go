package wire

import "sallyport/api"

// How many bytes the headers of the transports have; of TCP, how many at least.
const (
	leastTCP = 20
	sizeUDP  = 8
	sizeICMP = 8
)

// Where things stand in a TCP header; the ports stand ahead of them.
const (
	seqTCP    = 4
	ackTCP    = 8
	lengthTCP = 12
	flagsTCP  = 13
	windowTCP = 14
	seqWidth  = 4
)

// Transport answers what the transport header of a packet tells.
func Transport(b []byte, v View) (Trans, api.Errno) {
	if v.Head < 0 || v.Total < v.Head || len(b) < v.Total || v.Frag {
		return Trans{}, api.ErrHeader
	}
	body := b[v.Head:v.Total]
	size, e := headSize(body, v.Proto)
	switch {
	case e != api.OK:
		return Trans{}, e
	case !rightSum(body, v):
		return Trans{}, api.ErrSum
	}
	t := fields(body, v)
	t.Head = v.Head + size
	t.Data = v.Total - t.Head
	return t, api.OK
}

// headSize answers how many bytes of a body are its transport header.
func headSize(body []byte, proto int) (int, api.Errno) {
	size, _ := layout(proto)
	if len(body) < size {
		return 0, api.ErrShort
	}
	switch proto {
	case api.ProtoTCP:
		size = int(body[lengthTCP]>>4) * 4
		if size < leastTCP {
			return 0, api.ErrHeader
		}
		if size > len(body) {
			return 0, api.ErrShort
		}
	case api.ProtoUDP:
		if number(body[4:6]) != uint64(len(body)) {
			return 0, api.ErrHeader
		}
	}
	return size, api.OK
}

// fields answers what stands in a transport header that is whole.
func fields(body []byte, v View) Trans {
	var t Trans
	switch v.Proto {
	case api.ProtoTCP:
		numbers := readPair(body[seqTCP:], seqWidth)
		t.Seq, t.Ack = uint32(numbers[0]), uint32(numbers[1])
		t.Flags = int(body[flagsTCP])
		t.Window = int(number(body[windowTCP : windowTCP+2]))
	case api.ProtoICMP, api.ProtoICMP6:
		t.Type, t.Code = int(body[0]), int(body[1])
	}
	if p, ok := portPlaces(body, v.V6, v.Proto); ok {
		t.SPort, t.DPort = p.read(body)
	}
	return t
}
