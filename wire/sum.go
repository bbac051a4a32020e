package wire

import (
	"sallyport/addr"
	"sallyport/api"
)

// Where check sums stand: in an IPv4 header, and in the headers of the transports.
const (
	sum4    = 10
	sumTCP  = 16
	sumUDP  = 6
	sumICMP = 2
)

const (
	sumWidth = 2
	allOnes  = 65535
)

// Sum answers b's check sum.
func Sum(b []byte) int { return fold(words(b)) }

// words adds b's words of two bytes up. What is added up piece by piece must have whole words, but for the last piece.
func words(b []byte) uint64 {
	var n uint64
	for i := range len(b) / 2 {
		n += number(b[2*i : 2*i+2])
	}
	if len(b)%2 == 1 {
		n += uint64(b[len(b)-1]) << 8
	}
	return n
}

// fold makes a check sum of words that were added up.
func fold(n uint64) int {
	for n > allOnes {
		n = n>>16 + n&allOnes
	}
	return allOnes - int(n)
}

// pseudo answers the pseudo header of a body of so many bytes.
func pseudo(v View, size int) []byte {
	b := append(addrBytes(v.Src), addrBytes(v.Dst)...)
	if addr.Is4(v.Src) {
		return append(b, 0, byte(v.Proto), byte(size>>8), byte(size))
	}
	return append(b, byte(size>>24), byte(size>>16), byte(size>>8), byte(size), 0, 0, 0, byte(v.Proto))
}

// bodySum answers the check sum of a body, which is 0 of one that is right.
func bodySum(body []byte, v View) int {
	if v.Proto == api.ProtoICMP {
		return Sum(body)
	}
	return fold(words(pseudo(v, len(body))) + words(body))
}

// rightSum tells whether the check sum of a body, which has a whole header, is right, or may be left away.
func rightSum(body []byte, v View) bool {
	switch v.Proto {
	case api.ProtoUDP:
		if noSum(body) {
			return !v.V6
		}
		fallthrough
	case api.ProtoTCP, api.ProtoICMP, api.ProtoICMP6:
		return bodySum(body, v) == 0
	}
	return true
}

// noSum tells whether a body of ProtoUDP came without a check sum.
func noSum(body []byte) bool { return number(body[sumUDP:sumUDP+sumWidth]) == 0 }

// setSum sets the check sum of a header that has it at that place.
func setSum(head []byte, at int) {
	clear(head[at : at+sumWidth])
	put(head[at:at+sumWidth], uint64(Sum(head)))
}

// setBodySum sets the check sum of a body, if its protocol has one, and it is long enough.
func setBodySum(body []byte, v View) {
	least, at := layout(v.Proto)
	if least == 0 || len(body) < least {
		return
	}
	place := body[at : at+sumWidth]
	clear(place)
	n := bodySum(body, v)
	// A sum of 0 would say that there is none.
	if n == 0 && v.Proto == api.ProtoUDP {
		n = allOnes
	}
	put(place, uint64(n))
}

// layout answers how many bytes the header of a transport has at least, and where its check sum stands; 0 of one that has no header here.
func layout(proto int) (least, sumAt int) {
	switch proto {
	case api.ProtoTCP:
		return leastTCP, sumTCP
	case api.ProtoUDP:
		return sizeUDP, sumUDP
	case api.ProtoICMP, api.ProtoICMP6:
		return sizeICMP, sumICMP
	}
	return 0, 0
}
