package cookie

import "math/bits"

// numberBytes is how many bytes are mixed in at once.
const numberBytes = 8

// How often the numbers are mixed behind each number of the bytes, and at the end.
const (
	rounds     = 2
	lastRounds = 4
)

// mix are the four numbers that are mixed.
type mix [4]uint64

// Hash answers a number of b that nobody tells who does not know s.
func Hash(s Secret, b []byte) uint64 {
	v := begin(s)
	last := uint64(len(b)) << 56 // of how many there are one byte stays
	for len(b) >= numberBytes {
		v = v.take(number(b[:numberBytes]))
		b = b[numberBytes:]
	}
	v = v.take(number(b) | last)
	v[2] ^= 255
	v = v.turn(lastRounds)
	return v[0] ^ v[1] ^ v[2] ^ v[3]
}

// begin answers the numbers with which a hash begins.
func begin(s Secret) mix {
	return mix{s.A ^ 0x736f6d6570736575, s.B ^ 0x646f72616e646f6d, s.A ^ 0x6c7967656e657261, s.B ^ 0x7465646279746573}
}

// number answers the number whose bytes b are, the lowest first.
func number(b []byte) uint64 {
	var n uint64
	for i, x := range b {
		n |= uint64(x) << (8 * i)
	}
	return n
}

// take answers the numbers behind one number of the bytes.
func (v mix) take(m uint64) mix {
	v[3] ^= m
	v = v.turn(rounds)
	v[0] ^= m
	return v
}

// turn answers the numbers behind so many rounds. A round has four steps of one kind: one number gets another one added, that one is rotated and crossed with the sum, and the sum is rotated.
func (v mix) turn(n int) mix {
	steps := [...]struct{ x, y, rotateY, rotateX int }{{0, 1, 13, 32}, {2, 3, 16, 0}, {0, 3, 21, 0}, {2, 1, 17, 32}}
	for range n {
		for _, s := range steps {
			v[s.x] += v[s.y]
			v[s.y] = bits.RotateLeft64(v[s.y], s.rotateY) ^ v[s.x]
			v[s.x] = bits.RotateLeft64(v[s.x], s.rotateX)
		}
	}
	return v
}
