package window

import "sallyport/wire"

// segment is what the header tells, and what follows from it.
type segment struct {
	wire.Trans
	end uint32 // Seq and the length
}

// read answers a header's segment.
func read(t wire.Trans) segment {
	s := segment{Trans: t, end: t.Seq + uint32(t.Data)}
	for _, flag := range [...]int{wire.Syn, wire.Fin} {
		if s.has(flag) {
			s.end++
		}
	}
	return s
}

// has tells whether one of these flags is set.
func (s segment) has(flags int) bool { return s.Flags&flags != 0 }

// opens tells whether it is a Syn and nothing else.
func (s segment) opens() bool {
	for _, flag := range [...]int{wire.Syn, wire.Fin, wire.Rst, wire.Ack} {
		if s.has(flag) != (flag == wire.Syn) {
			return false
		}
	}
	return s.Data == 0
}

// bare tells whether there is nothing in it that does not go with a Syn.
func (s segment) bare() bool { return !s.has(wire.Fin|wire.Rst) && s.Data == 0 }

// acks tells whether it acknowledges all up to n, and nothing behind it.
func (s segment) acks(n uint32) bool { return s.has(wire.Ack) && s.Ack == n }

// stray tells whether it acknowledges what y did not send, or nothing, which only a Syn and a refusal may do.
func (s segment) stray(y Side) bool {
	if s.has(wire.Ack) {
		return y.Seen && Less(y.End, s.Ack)
	}
	return !s.has(wire.Syn | wire.Rst)
}

// first answers the side whose first segment it is.
func (s segment) first() Side {
	return Side{Seen: true, End: s.end, Most: s.end + uint32(s.Window)}
}
