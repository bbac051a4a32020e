package defrag

import (
	"bytes"

	"sallyport/api"
)

// unit is what the bytes of a fragment are counted in, if others are behind it: Off tells no place between two units.
const unit = 8

// fragment has some of a packet's bytes.
type fragment struct {
	off  int // where they belong
	more bool
	data []byte
}

func (f fragment) end() int { return f.off + len(f.data) }

// mayBe tells whether any packet has such a fragment.
func (f fragment) mayBe() bool {
	return len(f.data) > 0 && (!f.more || len(f.data)%unit == 0)
}

// buffer has the fragments of one packet.
type buffer struct {
	began  int
	number int // how many were begun ahead of it
	pieces []fragment
	head   []byte // the network header of the fragment with Off 0
}

// over tells whether the buffer's life is over. Times may lie further apart than a number with a sign tells.
func (u *buffer) over(now int) bool {
	return now >= u.began && uint64(now)-uint64(u.began) >= api.FragLife
}

// which answers the fragment that is meant, and whether there is one.
func (u *buffer) which(meant func(fragment) bool) (fragment, bool) {
	for _, x := range u.pieces {
		if meant(x) {
			return x, true
		}
	}
	return fragment{}, false
}

// holds tells whether the very same fragment is there; what else its packet's header said does not matter.
func (u *buffer) holds(f fragment) bool {
	_, ok := u.which(func(x fragment) bool {
		return x.off == f.off && x.more == f.more && bytes.Equal(x.data, f.data)
	})
	return ok
}

// refusal answers why a fragment spoils the packet, whose network header has head bytes; DropNone, if it does not.
func (u *buffer) refusal(f fragment, head int) int {
	if _, ok := u.which(f.clashes); ok || head+f.end() > api.MaxPacket {
		return api.DropFrag
	}
	if len(u.pieces) >= api.MaxPieces {
		return api.DropFragCap
	}
	return api.DropNone
}

// clashes tells whether two fragments can't be of one packet.
func (f fragment) clashes(x fragment) bool {
	switch {
	case x.off < f.end() && f.off < x.end():
		return true
	case !x.more && !f.more:
		return x.end() != f.end()
	case !x.more:
		return f.end() >= x.end()
	case !f.more:
		return x.end() > f.end()
	}
	return false
}

// take puts a fragment in, which came in a packet with that network header.
func (u *buffer) take(f fragment, head []byte) {
	f.data = bytes.Clone(f.data)
	u.pieces = append(u.pieces, f)
	if f.off == 0 {
		u.head = bytes.Clone(head)
	}
}

// size answers how many bytes the packet has behind its network header; false, as long as not all of them are there.
// No two fragments overlap, and none ends behind the last one: so none is missing if they have as many bytes as lie ahead of its end.
func (u *buffer) size() (int, bool) {
	last, ok := u.which(func(x fragment) bool { return !x.more })
	if !ok {
		return 0, false
	}
	n := 0
	for _, x := range u.pieces {
		n += len(x.data)
	}
	if n != last.end() {
		return 0, false
	}
	return n, true
}
