package defrag

import "sallyport/wire"

// Where in a network header what a whole packet gets anew stands.
const (
	size4   = 20
	total4  = 2
	parts4  = 6
	sum4    = 10
	size6   = 40
	follow6 = 4
	next6   = 6
)

const width = 2

// head answers how many bytes the packet's network header has when it is whole.
func (k packet) head() int {
	if k.v6 {
		return size6
	}
	return size4
}

// whole answers the packet whose fragments, with so many bytes in all, the buffer has.
func (k packet) whole(u *buffer, size int) []byte {
	head := k.head()
	p := make([]byte, head+size)
	copy(p, u.head)
	for _, x := range u.pieces {
		copy(p[head+x.off:], x.data)
	}
	if k.v6 {
		put(p[follow6:], size)
		p[next6] = byte(k.proto)
		return p
	}
	put(p[total4:], len(p))
	put(p[parts4:], 0)
	put(p[sum4:], 0)
	put(p[sum4:], wire.Sum(p[:size4]))
	return p
}

// put lays n down in two bytes, the higher one first.
func put(b []byte, n int) {
	for i := range width {
		b[i] = byte(n >> (8 * (width - 1 - i)))
	}
}
