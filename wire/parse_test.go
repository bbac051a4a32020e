package wire

import (
	"bytes"
	"math/rand"
	"testing"

	"sallyport/addr"
	"sallyport/api"
)

// P4.1

func TestSum(t *testing.T) {
	for s, want := range map[string]int{
		"": 0xffff, "00": 0xffff, "0000": 0xffff, "4500": 0xbaff, "01": 0xfeff, "0001": 0xfffe, "ff": 0x00ff, "ffff": 0, "ffffffff": 0,
		"ffff0001": 0xfffe, "fffe0001": 0, "8000 8000": 0xfffe, "0001 02": 0xfdfe, "ffff ff": 0x00ff, "ff00 ff": 0x01fe,
		"45000073000040004011b861c0a80001c0a800c7": 0,
		"450000730000400040110000c0a80001c0a800c7": 0xb861,
	} {
		if got := Sum(unhex(s)); got != want {
			t.Errorf("Sum(%s): %x; want %x", s, got, want)
		}
	}
}

// TestSumOfMany: what is above 16 bits is itself above 16 bits, and is added more than once.
func TestSumOfMany(t *testing.T) {
	r := rand.New(rand.NewSource(1))
	for _, n := range []int{3, 1 << 10, 1<<17 - 1, 1 << 17, 1<<17 + 1, 1<<17 + 4, 1 << 20, 1<<20 + 1} {
		for _, b := range [][]byte{bytes.Repeat([]byte{255}, n), bytes.Repeat([]byte{255, 254}, n/2), bytes.Repeat([]byte{1}, n), someBytes(r, n)} {
			if got, want := Sum(b), modelSum(b); got != want {
				t.Errorf("Sum of %d bytes from %x on: %x; want %x", len(b), b[:2], got, want)
			}
		}
	}
	for n := range 300 {
		b := someBytes(r, n)
		if got, want := Sum(b), modelSum(b); got != want {
			t.Errorf("Sum(%x): %x; want %x", b, got, want)
		}
	}
}

// P4.2

func wantView(t *testing.T, what string, b []byte, wanted View) {
	t.Helper()
	if v, e := Parse(b); v != wanted || e != api.OK {
		t.Errorf("%s: Parse(%x): %+v, %d; want %+v", what, b, v, e, wanted)
	}
}

func wantNoView(t *testing.T, what string, b []byte, wanted api.Errno) {
	t.Helper()
	if v, e := Parse(b); v != (View{}) || e != wanted {
		t.Errorf("%s: Parse(%x): %+v, %d; want %d", what, b, v, e, wanted)
	}
}

func TestParseOfNoPacket(t *testing.T) {
	wantNoView(t, "nothing", nil, api.ErrShort)
	wantNoView(t, "nothing", []byte{}, api.ErrShort)
	for version := range 16 {
		b := make([]byte, 60)
		b[0] = byte(version<<4 | 5)
		switch version {
		case 4:
			wantNoView(t, "no total", b, api.ErrHeader)
		case 6:
			wantView(t, "all 0", b, View{V6: true, Head: 40, Total: 40})
		default:
			wantNoView(t, "version", b, api.ErrVersion)
			wantNoView(t, "version of one byte", b[:1], api.ErrVersion)
			wantNoView(t, "version of too many bytes", append(b, make([]byte, 2000)...), api.ErrHeader)
		}
	}
}

func TestParseOfTheMostBytes(t *testing.T) {
	for _, v6 := range []bool{false, true} {
		head := familyOf(v6).size
		b := raw(v6, 50, make([]byte, api.MaxPacket-head))
		v, e := Parse(b)
		if e != api.OK || v.Total != api.MaxPacket || v.Head != head {
			t.Errorf("of MaxPacket bytes: %+v, %d", v, e)
		}
		wantNoView(t, "one more, behind the packet", append(b, 0), api.ErrHeader)
		wantNoView(t, "one more, of it", raw(v6, 50, make([]byte, api.MaxPacket-head+1)), api.ErrHeader)
	}
	wantNoView(t, "too many bytes ahead of all other faults", make([]byte, api.MaxPacket+1), api.ErrHeader)
	b := make([]byte, api.MaxPacket+1)
	b[0] = 0x50
	wantNoView(t, "too many bytes ahead of the version", b, api.ErrHeader)
}

func TestParse4(t *testing.T) {
	b := unhex("45ab00170102400009320000 01020304 fffefdfc 78797a")
	b = modelFix(b)
	want := View{Head: 20, Total: 23, TTL: 9, Proto: 50, Src: addr.Of4(0x01020304), Dst: addr.Of4(0xfffefdfc), ID: 0x102}
	wantView(t, "a packet", b, want)
	wantView(t, "bytes behind it", append(bytes.Clone(b), 1, 2, 3), want)
	for n := range b {
		if n > 0 {
			wantNoView(t, "cut off", b[:n], api.ErrShort)
		}
	}
	b[6] = 0
	want.ID, b[4], b[5], b[8], want.TTL = 0xffff, 255, 255, 255, 255
	wantView(t, "it may be parted", modelFix(b), want)
	b = raw4(hostA, hostB, 0, nil)
	wantView(t, "no body", b, View{Head: 20, Total: 20, TTL: 64, Src: hostA, Dst: hostB})
}

func TestParse4OfFragments(t *testing.T) {
	for parts, want := range map[uint16]View{
		0x0000: {}, 0x4000: {},
		0x2000: {Frag: true, More: true}, 0x6000: {Frag: true, More: true},
		0x0001: {Frag: true, Off: 8}, 0x4001: {Frag: true, Off: 8}, 0x2001: {Frag: true, Off: 8, More: true},
		0x1000: {Frag: true, Off: 8 * 0x1000}, 0x0100: {Frag: true, Off: 8 * 0x100}, 0x1fff: {Frag: true, Off: 8 * 0x1fff}, 0x7fff: {Frag: true, Off: 8 * 0x1fff, More: true},
	} {
		b := raw4(hostA, hostB, 17, []byte("1234567"))
		big.PutUint16(b[6:], parts)
		want.Head, want.Total, want.TTL, want.Proto, want.Src, want.Dst = 20, 27, 64, 17, hostA, hostB
		wantView(t, "a fragment", modelFix(b), want)
	}
}

// spoilt4 answers an IPv4 packet of 27 bytes of which one word is another one; fix makes its sum right.
func spoilt4(at int, word uint16, fix bool) []byte {
	b := raw4(hostA, hostB, 50, []byte("1234567"))
	big.PutUint16(b[at:], word)
	if fix {
		b = modelFix(b)
	}
	return b
}

func TestParse4OfWrongHeaders(t *testing.T) {
	for first := range 16 {
		if first != 5 {
			wantNoView(t, "length of the header", spoilt4(0, uint16(0x4000+first<<8), true), api.ErrHeader)
		}
	}
	wantNoView(t, "total of 19", spoilt4(2, 19, true), api.ErrHeader)
	wantNoView(t, "total of 0", spoilt4(2, 0, true), api.ErrHeader)
	wantNoView(t, "total too large", spoilt4(2, 28, true), api.ErrShort)
	wantNoView(t, "total far too large", spoilt4(2, 65535, true), api.ErrShort)
	for at := range 20 {
		b := spoilt4(0, 0x4500, false)
		b[at] ^= 2
		wanted := api.ErrSum
		switch at {
		case 0:
			wanted = api.ErrHeader
		case 2:
			wanted = api.ErrShort
		}
		wantNoView(t, "a bit", b, wanted)
	}
	wantNoView(t, "the highest bit", spoilt4(6, 0x8000, true), api.ErrHeader)
	wantNoView(t, "the highest bit, and others", spoilt4(6, 0xc000, true), api.ErrHeader)
	wantNoView(t, "ICMP of IPv6", raw4(hostA, hostB, api.ProtoICMP6, nil), api.ErrHeader)
	wantNoView(t, "a sum of 0", spoilt4(10, 0, false), api.ErrSum)
}

func TestParse4TellsTheFirstFault(t *testing.T) {
	b := spoilt4(0, 0x4500, true)
	short := bytes.Clone(b[:19])
	short[0] = 0x46
	wantNoView(t, "few bytes ahead of the length", short, api.ErrShort)
	b = spoilt4(2, 28, false)
	b[0] = 0x46
	wantNoView(t, "the length ahead of the total", b, api.ErrHeader)
	wantNoView(t, "the total ahead of the sum", spoilt4(2, 28, false), api.ErrShort)
	wantNoView(t, "the total ahead of the sum", spoilt4(2, 19, false), api.ErrHeader)
	wantNoView(t, "the sum ahead of the highest bit", spoilt4(6, 0x8000, false), api.ErrSum)
	wantNoView(t, "the sum ahead of the protocol", spoilt4(8, 0x4000|api.ProtoICMP6, false), api.ErrSum)
}

func TestParse4OfTheLastBytes(t *testing.T) {
	// 8 times 8191 is 65528: 7 more bytes are 65535.
	for n, wanted := range map[int]api.Errno{0: api.OK, 7: api.OK, 8: api.ErrHeader, 100: api.ErrHeader} {
		b := raw4(hostA, hostB, 17, make([]byte, n))
		big.PutUint16(b[6:], 0x1fff)
		b = modelFix(b)
		_, e := Parse(b)
		want(t, "at 65528", e, wanted)
		_, e = Parse(append(b, make([]byte, 200)...))
		want(t, "at 65528, with bytes behind it", e, wanted)
	}
}

func TestParse6(t *testing.T) {
	b := unhex("6abcdef1 0003 32 07 20010db8000000000000000000000001 fe80000000000000fedcba9876543210 78797a")
	wanted := View{V6: true, Head: 40, Total: 43, TTL: 7, Proto: 50, Src: six1, Dst: six3}
	wantView(t, "a packet", b, wanted)
	wantView(t, "bytes behind it", append(bytes.Clone(b), 1, 2, 3), wanted)
	for n := range b {
		if n > 0 {
			wantNoView(t, "cut off", b[:n], api.ErrShort)
		}
	}
	wantView(t, "no body", raw6(six1, six2, 59, nil), View{V6: true, Head: 40, Total: 40, TTL: 64, Proto: 59, Src: six1, Dst: six2})
	big.PutUint16(b[4:], 4)
	wantNoView(t, "total too large", b, api.ErrShort)
	big.PutUint16(b[4:], 65535)
	wantNoView(t, "total far too large", b, api.ErrShort)
	wantNoView(t, "ICMP of IPv4", raw6(six1, six2, api.ProtoICMP, nil), api.ErrHeader)
}

// write6 lays an address down as IPv6 has it, whatever it is.
func write6(b []byte, a api.Addr) {
	big.PutUint64(b, a.Hi)
	big.PutUint64(b[8:], a.Lo)
}

func TestParse6OfIPv4Addresses(t *testing.T) {
	for _, at := range []int{8, 24} {
		for _, a := range []api.Addr{hostA, addr.Of4(0), addr.Of4(1<<32 - 1)} {
			b := raw6(six1, six2, 50, []byte("xyz"))
			write6(b[at:], a)
			wantNoView(t, "an IPv4 address", b, api.ErrHeader)
			big.PutUint16(b[4:], 4)
			wantNoView(t, "the total ahead of the addresses", b, api.ErrShort)
			b = raw6(six1, six2, api.ProtoFrag, nil)
			write6(b[at:], a)
			wantNoView(t, "the addresses ahead of the fragment header", b, api.ErrHeader)
		}
		for _, a := range []api.Addr{{Lo: 0xfffeffffffff}, {Lo: 1 << 48}, {Hi: 1, Lo: 0xffff0a000001}} {
			b := raw6(six1, six2, 50, []byte("xyz"))
			write6(b[at:], a)
			if v, e := Parse(b); e != api.OK || at == 8 && v.Src != a || at == 24 && v.Dst != a {
				t.Errorf("no IPv4 address: %+v, %d", v, e)
			}
		}
	}
}

func TestParse6OfFragments(t *testing.T) {
	for parts, wanted := range map[uint16]View{
		0x0000: {}, 0x0002: {}, 0x0004: {}, 0x0006: {}, // a header that parts nothing
		0x0001: {Frag: true, More: true}, 0x0007: {Frag: true, More: true},
		0x0008: {Frag: true, Off: 8}, 0x000f: {Frag: true, Off: 8, More: true}, 0x0100: {Frag: true, Off: 256}, 0xfff8: {Frag: true, Off: 65528}, 0xffff: {Frag: true, Off: 65528, More: true},
	} {
		b := raw6(six1, six2, api.ProtoFrag, behindFrag(17, parts, 0xfedcba98, []byte("1234567")))
		b[41] = 0xff // nobody looks at it
		wanted.V6, wanted.Head, wanted.Total, wanted.TTL, wanted.Proto, wanted.Src, wanted.Dst, wanted.ID = true, 48, 55, 64, 17, six1, six2, 0xfedcba98
		wantView(t, "a fragment", b, wanted)
	}
	wantView(t, "no body", raw6(six1, six2, api.ProtoFrag, behindFrag(0, 0, 1, nil)), View{V6: true, Head: 48, Total: 48, TTL: 64, Src: six1, Dst: six2, ID: 1})
}

func TestParse6OfWrongFragments(t *testing.T) {
	whole := raw6(six1, six2, api.ProtoFrag, behindFrag(17, 1, 5, nil))
	for n := range 8 {
		b := bytes.Clone(whole)
		big.PutUint16(b[4:], uint16(n))
		wantNoView(t, "a part of a header, and bytes behind it", b, api.ErrShort)
		wantNoView(t, "a part of a header", b[:40+n], api.ErrShort)
		b[40] = api.ProtoFrag
		wantNoView(t, "its end ahead of what it has", b, api.ErrShort)
	}
	wantNoView(t, "two headers", raw6(six1, six2, api.ProtoFrag, behindFrag(api.ProtoFrag, 0, 5, make([]byte, 20))), api.ErrHeader)
	for _, parts := range []uint16{0, 1, 8} {
		wantNoView(t, "ICMP of IPv4", raw6(six1, six2, api.ProtoFrag, behindFrag(api.ProtoICMP, parts, 5, nil)), api.ErrHeader)
		b := raw4(hostA, hostB, api.ProtoICMP6, nil)
		big.PutUint16(b[6:], parts)
		wantNoView(t, "ICMP of IPv6", modelFix(b), api.ErrHeader)
	}
	for n, wanted := range map[int]api.Errno{0: api.OK, 7: api.OK, 8: api.ErrHeader, 100: api.ErrHeader} {
		b := raw6(six1, six2, api.ProtoFrag, behindFrag(17, 0xfff8, 5, make([]byte, n)))
		_, e := Parse(b)
		want(t, "at 65528", e, wanted)
		_, e = Parse(append(b, make([]byte, 200)...))
		want(t, "at 65528, with bytes behind it", e, wanted)
	}
}

// TestParseTakesEachProtocol but the other family's ICMP; what has a fragment header in IPv4 is no fragment by that.
func TestParseTakesEachProtocol(t *testing.T) {
	for proto := range 256 {
		for _, v6 := range []bool{false, true} {
			v, e := Parse(raw(v6, proto, make([]byte, 8)))
			switch {
			case v6 && proto == api.ProtoFrag: // of all noughts, behind which protocol 0 stands
				if e != api.OK || v.Proto != 0 || v.Head != 48 || v.Frag {
					t.Errorf("a fragment header: %+v, %d", v, e)
				}
			case v6 && proto == api.ProtoICMP, !v6 && proto == api.ProtoICMP6:
				want(t, "the other ICMP", e, api.ErrHeader)
			default:
				if e != api.OK || v.Proto != proto || v.ID != 0 || v.Frag {
					t.Errorf("protocol %d: %+v, %d", proto, v, e)
				}
			}
		}
	}
}

func TestParseIsWhatTheModelSays(t *testing.T) {
	r := rand.New(rand.NewSource(2))
	count := map[api.Errno]int{}
	for range 40000 {
		b := somePacket(r, r.Intn(2) == 0, 1)
		v, e := Parse(b)
		if wanted, wantE := modelParse(b); v != wanted || e != wantE {
			t.Fatalf("Parse(%x): %+v, %d; want %+v, %d", b, v, e, wanted, wantE)
		}
		count[e]++
	}
	for _, e := range []api.Errno{api.OK, api.ErrShort, api.ErrHeader, api.ErrSum} {
		if count[e] < 100 {
			t.Errorf("%d only %d times", e, count[e])
		}
	}
}
