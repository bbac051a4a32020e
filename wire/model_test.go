package wire

import (
	"bytes"
	"encoding/binary"
	"encoding/hex"
	"math/rand"
	"strings"
	"testing"

	"sallyport/addr"
	"sallyport/api"
)

// What the chapter says, said once more: sentence by sentence, at fixed places, without what the package itself is made of.

var big = binary.BigEndian

// Addresses for tests.
var (
	hostA = addr.Of4(0x0a000001)
	hostB = addr.Of4(0x0a000002)
	hostC = addr.Of4(0xc0a80109)
	six1  = api.Addr{Hi: 0x20010db800000000, Lo: 1}
	six2  = api.Addr{Hi: 0x20010db800000000, Lo: 2}
	six3  = api.Addr{Hi: 0xfe80000000000000, Lo: 0xfedcba9876543210}
)

// unhex answers the bytes that are written to the base sixteen; spaces say nothing.
func unhex(s string) []byte {
	b, err := hex.DecodeString(strings.ReplaceAll(s, " ", ""))
	if err != nil {
		panic(err)
	}
	return b
}

// modelSum goes by what is left behind a division, not by carries.
func modelSum(b []byte) int {
	n := 0
	for i, x := range b {
		if i%2 == 0 {
			n += 256 * int(x)
		} else {
			n += int(x)
		}
	}
	if n == 0 {
		return 65535
	}
	return 65534 - (n-1)%65535
}

func modelIs4(a api.Addr) bool { return a.Hi == 0 && a.Lo >= 0xffff00000000 && a.Lo <= 0xffffffffffff }

func model4(b []byte) api.Addr { return api.Addr{Lo: 0xffff00000000 + uint64(big.Uint32(b))} }

func model6(b []byte) api.Addr { return api.Addr{Hi: big.Uint64(b), Lo: big.Uint64(b[8:])} }

// modelBytes answers an address's bytes, as a packet with such addresses has them.
func modelBytes(a api.Addr) []byte {
	if modelIs4(a) {
		return big.AppendUint32(nil, uint32(a.Lo))
	}
	return big.AppendUint64(big.AppendUint64(nil, a.Hi), a.Lo)
}

func modelBodySum(src, dst api.Addr, proto int, body []byte) int {
	if proto == 1 {
		return modelSum(body)
	}
	b := append(modelBytes(src), modelBytes(dst)...)
	if modelIs4(src) {
		b = big.AppendUint16(append(b, 0, byte(proto)), uint16(len(body)))
	} else {
		b = append(big.AppendUint32(b, uint32(len(body))), 0, 0, 0, byte(proto))
	}
	return modelSum(append(b, body...))
}

func modelParse(b []byte) (View, api.Errno) {
	if len(b) == 0 {
		return View{}, 40
	}
	if len(b) > 2048 {
		return View{}, 42
	}
	v, e := View{}, api.Errno(41)
	if b[0] >= 0x40 && b[0] <= 0x4f {
		v, e = modelParse4(b)
	} else if b[0] >= 0x60 && b[0] <= 0x6f {
		v, e = modelParse6(b)
	}
	if e != 0 {
		return View{}, e
	}
	if v.Off+v.Total-v.Head > 65535 || v.Proto == 1 && v.V6 || v.Proto == 58 && !v.V6 {
		return View{}, 42
	}
	return v, 0
}

func modelParse4(b []byte) (View, api.Errno) {
	if len(b) < 20 {
		return View{}, 40
	}
	if b[0] != 0x45 {
		return View{}, 42
	}
	total := int(big.Uint16(b[2:]))
	if total < 20 {
		return View{}, 42
	}
	if total > len(b) {
		return View{}, 40
	}
	if modelSum(b[:20]) != 0 {
		return View{}, 43
	}
	if b[6] >= 128 {
		return View{}, 42
	}
	v := View{Head: 20, Total: total, TTL: int(b[8]), Proto: int(b[9]), Src: model4(b[12:]), Dst: model4(b[16:]), ID: uint32(big.Uint16(b[4:]))}
	v.More = b[6]%64 >= 32
	v.Off = (int(b[6])%32*256 + int(b[7])) * 8
	v.Frag = v.More || v.Off != 0
	return v, 0
}

func modelParse6(b []byte) (View, api.Errno) {
	if len(b) < 40 {
		return View{}, 40
	}
	total := int(big.Uint16(b[4:])) + 40
	if total > len(b) {
		return View{}, 40
	}
	v := View{V6: true, Head: 40, Total: total, TTL: int(b[7]), Proto: int(b[6]), Src: model6(b[8:]), Dst: model6(b[24:])}
	if modelIs4(v.Src) || modelIs4(v.Dst) {
		return View{}, 42
	}
	if v.Proto != 44 {
		return v, 0
	}
	if total < 48 {
		return View{}, 40
	}
	if b[40] == 44 {
		return View{}, 42
	}
	v.Head, v.Proto, v.ID = 48, int(b[40]), big.Uint32(b[44:])
	v.Off, v.More = int(big.Uint16(b[42:]))/8*8, b[43]%2 == 1
	v.Frag = v.More || v.Off != 0
	return v, 0
}

func modelTransport(b []byte, v View) (Trans, api.Errno) {
	if v.Head < 0 || v.Head > v.Total || v.Total > len(b) || v.Frag {
		return Trans{}, 42
	}
	body := b[v.Head:v.Total]
	t := Trans{Head: v.Head, Data: len(body)}
	right := modelBodySum(v.Src, v.Dst, v.Proto, body) == 0
	switch v.Proto {
	case 6:
		if len(body) < 20 {
			return Trans{}, 40
		}
		size := int(body[12]/16) * 4
		if size < 20 {
			return Trans{}, 42
		}
		if size > len(body) {
			return Trans{}, 40
		}
		if !right {
			return Trans{}, 43
		}
		return Trans{SPort: int(big.Uint16(body)), DPort: int(big.Uint16(body[2:])), Seq: big.Uint32(body[4:]), Ack: big.Uint32(body[8:]),
			Flags: int(body[13]), Window: int(big.Uint16(body[14:])), Head: v.Head + size, Data: len(body) - size}, 0
	case 17:
		if len(body) < 8 {
			return Trans{}, 40
		}
		if int(big.Uint16(body[4:])) != len(body) {
			return Trans{}, 42
		}
		if body[6] == 0 && body[7] == 0 {
			right = !v.V6
		}
		if !right {
			return Trans{}, 43
		}
		return Trans{SPort: int(big.Uint16(body)), DPort: int(big.Uint16(body[2:])), Head: v.Head + 8, Data: len(body) - 8}, 0
	case 1, 58:
		if len(body) < 8 {
			return Trans{}, 40
		}
		if !right {
			return Trans{}, 43
		}
		t = Trans{Type: int(body[0]), Code: int(body[1]), Head: v.Head + 8, Data: len(body) - 8}
		if modelEcho(v.V6, t.Type) {
			t.SPort = int(big.Uint16(body[4:]))
			t.DPort = t.SPort
		}
	}
	return t, 0
}

func modelEcho(v6 bool, kind int) bool {
	return !v6 && (kind == 8 || kind == 0) || v6 && (kind == 128 || kind == 129)
}

// modelFix makes all check sums of a packet right, as far as it has them; of its UDP it sets one, too, that was 0.
func modelFix(b []byte) []byte {
	p := bytes.Clone(b)
	if len(p) >= 20 && p[0]>>4 == 4 {
		p[10], p[11] = 0, 0
		big.PutUint16(p[10:], uint16(modelSum(p[:20])))
	}
	v, e := modelParse(p)
	if e == 0 && !v.Frag {
		modelFixBody(p, v)
	}
	return p
}

func modelFixBody(p []byte, v View) {
	body := p[v.Head:v.Total]
	at := map[int]int{6: 16, 17: 6, 1: 2, 58: 2}[v.Proto]
	if at == 0 || len(body) < 8 || v.Proto == 6 && len(body) < 20 {
		return
	}
	body[at], body[at+1] = 0, 0
	n := modelBodySum(v.Src, v.Dst, v.Proto, body)
	if n == 0 && v.Proto == 17 {
		n = 65535
	}
	big.PutUint16(body[at:], uint16(n))
}

func modelPorts(l ...int) bool {
	for _, n := range l {
		if n < 0 || n > 65535 {
			return false
		}
	}
	return true
}

// modelHead lays addresses and TTL of a packet down, but no sum.
func modelHead(p []byte, v6 bool, k api.Key, ttl int) {
	if v6 {
		p[7] = byte(ttl)
		copy(p[8:], modelBytes(k.Src))
		copy(p[24:], modelBytes(k.Dst))
		return
	}
	p[8] = byte(ttl)
	copy(p[12:], modelBytes(k.Src))
	copy(p[16:], modelBytes(k.Dst))
}

func modelRewrite(b []byte, c Change) ([]byte, api.Errno) {
	v, e := modelParse(b)
	if e != 0 {
		return nil, e
	}
	t, e := modelTransport(b, v)
	if e != 0 {
		return nil, e
	}
	if c.Key.Proto != v.Proto || modelIs4(c.Key.Src) == v.V6 || modelIs4(c.Key.Dst) == v.V6 || !modelPorts(c.Key.SPort, c.Key.DPort) || c.TTL < 0 || c.TTL > 255 {
		return nil, 1
	}
	p := bytes.Clone(b[:v.Total])
	modelHead(p, v.V6, c.Key, c.TTL)
	h := v.Head
	bare := v.Proto == 17 && big.Uint16(p[h+6:]) == 0
	switch {
	case v.Proto == 6 || v.Proto == 17:
		big.PutUint16(p[h:], uint16(c.Key.SPort))
		big.PutUint16(p[h+2:], uint16(c.Key.DPort))
	case (v.Proto == 1 || v.Proto == 58) && modelEcho(v.V6, t.Type):
		big.PutUint16(p[h+4:], uint16(c.Key.SPort))
	}
	if v.Proto == 6 {
		big.PutUint32(p[h+4:], t.Seq+c.SeqAdd)
		if t.Flags/16%2 == 1 {
			big.PutUint32(p[h+8:], t.Ack+c.AckAdd)
			modelSack(p, h+20, t.Head, c.AckAdd)
		}
	}
	p = modelFix(p)
	if bare {
		p[h+6], p[h+7] = 0, 0
	}
	return p, 0
}

func modelSack(p []byte, at, end int, n uint32) {
	for at < end && p[at] != 0 {
		if p[at] == 1 {
			at++
			continue
		}
		if at+1 == end || p[at+1] < 2 || at+int(p[at+1]) > end {
			return
		}
		size := int(p[at+1])
		if p[at] == 5 && (size-2)%8 == 0 {
			for i := at + 2; i < at+size; i += 4 {
				big.PutUint32(p[i:], big.Uint32(p[i:])+n)
			}
		}
		at += size
	}
}

func modelRefusal(b []byte, own api.Addr, code int) ([]byte, api.Errno) {
	v, e := modelParse(b)
	if e != 0 {
		return nil, e
	}
	if modelIs4(own) == v.V6 || code < 0 || code > 255 {
		return nil, 1
	}
	if v.Proto == 1 || v.Proto == 58 {
		return nil, 42
	}
	head := unhex("45000000000040004001000000000000 00000000 0301000000000000")
	most, at := 28, 20
	if v.V6 {
		head = unhex("6000000000003a40 00000000000000000000000000000000 00000000000000000000000000000000 0101000000000000")
		most, at = 56, 40
	}
	p := append(head, b[:min(most, v.Total)]...)
	p[at+1] = byte(code)
	modelHead(p, v.V6, api.Key{Src: own, Dst: v.Src}, 64)
	if v.V6 {
		big.PutUint16(p[4:], uint16(len(p)-40))
	} else {
		big.PutUint16(p[2:], uint16(len(p)))
	}
	return modelFix(p), 0
}

func modelQuoted(b []byte) (api.Key, bool) {
	v, e := modelParse(b)
	if e != 0 {
		return api.Key{}, false
	}
	t, e := modelTransport(b, v)
	if e != 0 {
		return api.Key{}, false
	}
	q := b[v.Total-t.Data : v.Total]
	var k api.Key
	var behind []byte
	switch {
	case v.Proto == 1 && (t.Type == 3 || t.Type == 11 || t.Type == 12):
		if len(q) < 28 || q[0] != 0x45 || big.Uint16(q[6:])%8192 != 0 {
			return api.Key{}, false
		}
		k, behind = api.Key{Proto: int(q[9]), Src: model4(q[12:]), Dst: model4(q[16:])}, q[20:]
	case v.Proto == 58 && (t.Type == 1 || t.Type == 2 || t.Type == 3 || t.Type == 4):
		if len(q) < 48 || q[0]/16 != 6 || q[6] == 44 || modelIs4(model6(q[8:])) || modelIs4(model6(q[24:])) {
			return api.Key{}, false
		}
		k, behind = api.Key{Proto: int(q[6]), Src: model6(q[8:]), Dst: model6(q[24:])}, q[40:]
	default:
		return api.Key{}, false
	}
	switch {
	case k.Proto == 6 || k.Proto == 17:
		k.SPort, k.DPort = int(big.Uint16(behind)), int(big.Uint16(behind[2:]))
	case k.Proto == 1 && !v.V6 && (behind[0] == 0 || behind[0] == 8), k.Proto == 58 && v.V6 && (behind[0] == 128 || behind[0] == 129):
		k.SPort, k.DPort = int(big.Uint16(behind[4:])), int(big.Uint16(behind[4:]))
	default:
		return api.Key{}, false
	}
	return k, true
}

func modelRequote(b []byte, outer, inner api.Key, ttl int) ([]byte, api.Errno) {
	k, ok := modelQuoted(b)
	if !ok {
		return nil, 42
	}
	v, _ := modelParse(b)
	for _, a := range []api.Addr{outer.Src, outer.Dst, inner.Src, inner.Dst} {
		if modelIs4(a) == v.V6 {
			return nil, 1
		}
	}
	if outer.Proto != v.Proto || inner.Proto != k.Proto || !modelPorts(outer.SPort, outer.DPort, inner.SPort, inner.DPort) || ttl < 0 || ttl > 255 {
		return nil, 1
	}
	p := bytes.Clone(b[:v.Total])
	modelHead(p, v.V6, outer, ttl)
	q := p[v.Head+8:]
	behind, old := q[20:], q[8]
	if v.V6 {
		behind, old = q[40:], q[7]
	}
	modelHead(q, v.V6, inner, int(old))
	if !v.V6 {
		q[10], q[11] = 0, 0
		big.PutUint16(q[10:], uint16(modelSum(q[:20])))
	}
	if k.Proto == 6 || k.Proto == 17 {
		big.PutUint16(behind, uint16(inner.SPort))
		big.PutUint16(behind[2:], uint16(inner.DPort))
	} else {
		big.PutUint16(behind[4:], uint16(inner.SPort))
	}
	return modelFix(p), 0
}

// Raw packets, which no function of the package makes.

// raw4 answers an IPv4 packet of all that body is, its sums right.
func raw4(src, dst api.Addr, proto int, body []byte) []byte {
	p := append(unhex("45000000000040004000000000000000 00000000"), body...)
	big.PutUint16(p[2:], uint16(len(p)))
	p[9] = byte(proto)
	modelHead(p, false, api.Key{Src: src, Dst: dst}, 64)
	return modelFix(p)
}

func raw6(src, dst api.Addr, proto int, body []byte) []byte {
	p := append(unhex("6000000000000040 00000000000000000000000000000000 00000000000000000000000000000000"), body...)
	big.PutUint16(p[4:], uint16(len(body)))
	p[6] = byte(proto)
	modelHead(p, true, api.Key{Src: src, Dst: dst}, 64)
	return modelFix(p)
}

// raw answers a packet from one host to another one, in the family that is asked for.
func raw(v6 bool, proto int, body []byte) []byte {
	if v6 {
		return raw6(six1, six2, proto, body)
	}
	return raw4(hostA, hostB, proto, body)
}

// behindFrag answers a body behind a fragment header.
func behindFrag(proto int, parts uint16, id uint32, body []byte) []byte {
	b := big.AppendUint16([]byte{byte(proto), 0}, parts)
	return append(big.AppendUint32(b, id), body...)
}

// rawTCP answers a segment with options, of which there are a multiple of four bytes, and data.
func rawTCP(flags int, options, data []byte) []byte {
	b := unhex("1388 0050 01020304 0a0b0c0d 50 00 2000 0000 0000")
	b[12], b[13] = byte(5+len(options)/4)<<4, byte(flags)
	return append(append(b, options...), data...)
}

func rawUDP(data []byte) []byte {
	b := unhex("1388 0035 0000 0000")
	big.PutUint16(b[4:], uint16(8+len(data)))
	return append(b, data...)
}

func rawICMP(kind, code int, rest string) []byte {
	return append([]byte{byte(kind), byte(code), 0, 0}, unhex(rest)...)
}

// Packets without an order.

func pick[T any](r *rand.Rand, l ...T) T { return l[r.Intn(len(l))] }

func someBytes(r *rand.Rand, n int) []byte {
	b := make([]byte, n)
	r.Read(b)
	if r.Intn(4) == 0 {
		clear(b)
	}
	return b
}

func someHost(r *rand.Rand, v6 bool) api.Addr {
	if v6 {
		return pick(r, six1, six2, six3, api.Addr{}, api.Addr{Hi: r.Uint64(), Lo: r.Uint64()})
	}
	return pick(r, hostA, hostB, hostC, addr.Of4(0), addr.Of4(r.Uint32()))
}

func someOptions(r *rand.Rand) []byte {
	var b []byte
	for range r.Intn(6) {
		switch r.Intn(5) {
		case 0:
			b = append(b, 1)
		case 1:
			b = append(b, byte(r.Intn(3)))
		case 2:
			n := r.Intn(14)
			b = append(append(b, byte(r.Intn(9)), byte(n+2-r.Intn(12)/11)), someBytes(r, n)...)
		default:
			n := 8 * r.Intn(4)
			b = append(append(b, 5, byte(n+2)), someBytes(r, n)...)
		}
	}
	b = b[:min(len(b), 40)]
	return append(b, make([]byte, -len(b)&3)...)
}

// someBody answers a body of a protocol; quotes tells how deep errors may quote.
func someBody(r *rand.Rand, v6 bool, proto, quotes int) []byte {
	data := someBytes(r, r.Intn(40))
	switch proto {
	case 6:
		b := rawTCP(r.Intn(256), someOptions(r), data)
		r.Read(b[:12])
		return b
	case 17:
		b := rawUDP(data)
		r.Read(b[:4])
		return b
	case 1, 58:
		kind := pick(r, 0, 8, 128, 129, 0, 8, 128, 129, 3, 11, 12, 1, 2, 3, 4, 0, 5, 10, 13, 7, 9, 127, 130)
		if quotes > 0 && r.Intn(4) > 0 {
			data = somePacket(r, r.Intn(8) == 0 != v6, quotes-1)
			if r.Intn(3) == 0 {
				data = data[:r.Intn(len(data)+1)]
			}
			if r.Intn(4) > 0 {
				kind = pick(r, 1, 2, 3, 4, 11, 12)
			}
		}
		return append(append([]byte{byte(kind), byte(r.Intn(256)), 0, 0}, someBytes(r, 4)...), data...)
	}
	return data
}

// somePacket answers a packet that is right, or nearly so.
func somePacket(r *rand.Rand, v6 bool, quotes int) []byte {
	icmp := 1
	if v6 {
		icmp = 58
	}
	proto := pick(r, 6, 6, 17, icmp, icmp, icmp, 59-icmp, 50, 0, 44)
	body := someBody(r, v6, proto, quotes)
	if v6 && r.Intn(8) == 0 {
		body, proto = behindFrag(proto, uint16(pick(r, 0, 0, 6, 1, 8, 0xfff8, r.Intn(65536))), r.Uint32(), body), 44
	}
	p := raw(v6, proto, body)
	if v6 {
		modelHead(p, true, api.Key{Src: someHost(r, r.Intn(20) > 0), Dst: six3}, r.Intn(256))
		copy(p[24:40], modelBytes(someHost(r, true)))
	} else {
		modelHead(p, false, api.Key{Src: someHost(r, false), Dst: someHost(r, false)}, r.Intn(256))
		if r.Intn(8) == 0 {
			big.PutUint16(p[6:], pick(r, 0, 0x2000, 0x8000, 1, uint16(r.Intn(65536))))
		}
	}
	p = modelFix(p)
	for range r.Intn(6) / 4 {
		p[r.Intn(len(p))] = byte(pick(r, 0, 255, r.Intn(256)))
		if r.Intn(2) == 0 {
			p = modelFix(p)
		}
	}
	// A check sum of 0 of UDP.
	if v, e := modelParse(p); e == 0 && v.Proto == 17 && v.Total-v.Head >= 8 && r.Intn(4) == 0 {
		p[v.Head+6], p[v.Head+7] = 0, 0
	}
	switch r.Intn(12) {
	case 0:
		p = p[:r.Intn(len(p)+1)]
	case 1:
		p = append(p, someBytes(r, r.Intn(9))...)
	}
	return p
}

// want checks an error's number.
func want(t *testing.T, what string, got, wanted api.Errno) {
	t.Helper()
	if got != wanted {
		t.Errorf("%s: %d; want %d", what, got, wanted)
	}
}

// wantBytes checks an answer of bytes.
func wantBytes(t *testing.T, what string, got, wanted []byte) {
	t.Helper()
	if !bytes.Equal(got, wanted) {
		t.Errorf("%s:\n%x; want\n%x", what, got, wanted)
	}
}
