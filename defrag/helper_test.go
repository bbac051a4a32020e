package defrag

import (
	"bytes"
	"encoding/binary"
	"testing"

	"sallyport/addr"
	"sallyport/api"
)

var big = binary.BigEndian

// Addresses for tests.
var (
	hostA = addr.Of4(0x0a000001)
	hostB = addr.Of4(0x0a000002)
	hostC = addr.Of4(0xc0a80109)
	six1  = api.Addr{Hi: 0x20010db800000000, Lo: 1}
	six2  = api.Addr{Hi: 0x20010db800000000, Lo: 2}
	six3  = api.Addr{Hi: 0xfe80000000000000, Lo: 0xfedcba9876543210}
)

// part is a packet as its headers tell it: a fragment, unless off is 0 and more is not set.
type part struct {
	v6       bool
	src, dst api.Addr
	id       uint32
	proto    int
	off      int
	more     bool
	data     []byte
	ttl      byte
	class    byte   // what a header says besides
	flags    byte   // byte 6 of IPv4: the bit that says do not part it; byte 41 of IPv6
	behind   []byte // bytes behind Total
	plain    bool   // of IPv6: without a fragment header
}

// sum16 is a check sum, told by what is left behind a division.
func sum16(b []byte) uint16 {
	n := 0
	for i, x := range b {
		n += int(x) << (8 * (1 - i%2))
	}
	if n == 0 {
		return 65535
	}
	return uint16(65534 - (n-1)%65535)
}

// bytes answers the packet, laid down byte by byte.
func (p part) bytes() []byte {
	var b []byte
	var more uint16
	if p.more {
		more = 1
	}
	if p.v6 {
		b = append(b, 0x60|p.class>>4, p.class<<4|7, 8, 9)
		next, follow := byte(44), len(p.data)+8
		if p.plain {
			next, follow = byte(p.proto), len(p.data)
		}
		b = append(big.AppendUint16(b, uint16(follow)), next, p.ttl)
		for _, a := range []api.Addr{p.src, p.dst} {
			b = big.AppendUint64(big.AppendUint64(b, a.Hi), a.Lo)
		}
		if !p.plain {
			b = append(b, byte(p.proto), p.flags)
			b = big.AppendUint32(big.AppendUint16(b, uint16(p.off)|more), p.id)
		}
	} else {
		b = big.AppendUint16(append(b, 0x45, p.class), uint16(20+len(p.data)))
		b = big.AppendUint16(big.AppendUint16(b, uint16(p.id)), more<<13|uint16(p.off/8))
		b[6] |= p.flags
		b = append(b, p.ttl, byte(p.proto), 0, 0)
		b = big.AppendUint32(big.AppendUint32(b, uint32(p.src.Lo)), uint32(p.dst.Lo))
		big.PutUint16(b[10:], sum16(b))
	}
	return append(append(b, p.data...), p.behind...)
}

// payload answers n bytes, each of which tells its place.
func payload(n int) []byte {
	b := make([]byte, n)
	for i := range b {
		b[i] = byte(i*7 + i/256 + 1)
	}
	return b
}

// maker answers a function that answers the fragment of one packet that has the bytes from one place up to another one.
func maker(base part, data []byte) func(from, to int, more bool) part {
	return func(from, to int, more bool) part {
		p := base
		p.off, p.more, p.data = from, more, data[from:to]
		return p
	}
}

func base4() part {
	return part{src: hostA, dst: hostB, id: 0x1234, proto: 200, ttl: 64}
}

func base6() part {
	return part{v6: true, src: six1, dst: six2, id: 0x12345678, proto: 200, ttl: 64}
}

// families are the packets of whom most tests cut fragments.
func families() map[string]part { return map[string]part{"4": base4(), "6": base6()} }

// bothFamilies runs a test of each family: of a packet of 2200 bytes, from which fragments are cut.
func bothFamilies(t *testing.T, f func(t *testing.T, base part, cut func(from, to int, more bool) part)) {
	for name, base := range families() {
		t.Run(name, func(t *testing.T) { f(t, base, maker(base, payload(2200))) })
	}
}

// add adds a packet, and looks at the reason; bytes come with DropNone, and no other reason.
func add(t *testing.T, b *Buffers, p part, now, reason int) []byte {
	t.Helper()
	return addBytes(t, b, p.bytes(), now, reason)
}

func addBytes(t *testing.T, b *Buffers, p []byte, now, reason int) []byte {
	t.Helper()
	q, n := b.Add(p, now)
	if n != reason {
		t.Fatalf("Add(%x, %d): reason %d, not %d", p, now, n, reason)
	}
	if (n == api.DropNone) != (len(q) > 0) {
		t.Fatalf("Add(%x, %d): reason %d with %d bytes", p, now, n, len(q))
	}
	return q
}

// counts looks at how many buffers and fragments there are.
func counts(t *testing.T, b *Buffers, buffers, pieces int) {
	t.Helper()
	if b.Len() != buffers || b.Pieces() != pieces {
		t.Fatalf("%d buffers with %d fragments, not %d with %d", b.Len(), b.Pieces(), buffers, pieces)
	}
}

// ticks looks at how many buffers go.
func ticks(t *testing.T, b *Buffers, now, gone int) {
	t.Helper()
	if n := b.Tick(now); n != gone {
		t.Fatalf("Tick(%d): %d, not %d", now, n, gone)
	}
}

func same(t *testing.T, what string, got, want []byte) {
	t.Helper()
	if !bytes.Equal(got, want) {
		t.Fatalf("%s: %x, not %x", what, got, want)
	}
}

// whole answers what comes out of fragments whose first one has the header of p.
func whole(p part, data []byte) []byte {
	p.off, p.more, p.data, p.behind, p.plain, p.flags = 0, false, data, nil, true, 0
	return p.bytes()
}

// other answers the i-th of many packets that differ in their ID alone.
func other(base part, i int) part {
	base.id += uint32(i)
	base.off, base.more, base.data = 0, true, payload(8)
	return base
}

// fill begins so many buffers.
func fill(t *testing.T, b *Buffers, base part, n, now int) {
	t.Helper()
	for i := range n {
		add(t, b, other(base, i), now, api.DropHeld)
	}
}

// lives tells whether the i-th of many packets has its buffer, and finishes that packet.
func lives(t *testing.T, b *Buffers, base part, i, now int) bool {
	t.Helper()
	p := other(base, i)
	p.off, p.more = 8, false
	_, n := b.Add(p.bytes(), now)
	return n == api.DropNone
}
