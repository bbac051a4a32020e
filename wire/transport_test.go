package wire

import (
	"bytes"
	"math"
	"math/rand"
	"testing"

	"sallyport/api"
)

// carried answers a packet with that body, and its view.
func carried(t *testing.T, v6 bool, proto int, body []byte) ([]byte, View) {
	t.Helper()
	b := raw(v6, proto, body)
	v, e := Parse(b)
	if e != api.OK {
		t.Fatalf("Parse(%x): %d", b, e)
	}
	return b, v
}

func wantTrans(t *testing.T, what string, b []byte, v View, wanted Trans) {
	t.Helper()
	if x, e := Transport(b, v); x != wanted || e != api.OK {
		t.Errorf("%s: Transport(%x): %+v, %d; want %+v", what, b, x, e, wanted)
	}
}

func wantNoTrans(t *testing.T, what string, b []byte, v View, wanted api.Errno) {
	t.Helper()
	if x, e := Transport(b, v); x != (Trans{}) || e != wanted {
		t.Errorf("%s: Transport(%x): %+v, %d; want %d", what, b, x, e, wanted)
	}
}

// body answers where the body of a packet lies in it.
func body(b []byte, v View) []byte { return b[v.Head:v.Total] }

var families = []bool{false, true}

// P4.3

func TestTransportOfViewsThatMayNotBe(t *testing.T) {
	b := make([]byte, 30)
	for _, c := range [][2]int{
		{-1, 20}, {-1, -1}, {21, 20}, {0, 31}, {31, 31}, {30, 31}, {31, 30}, {20, -1}, {math.MinInt, 20}, {0, math.MaxInt}, {math.MaxInt, math.MaxInt}, {math.MinInt, math.MinInt}, {math.MaxInt, math.MinInt}, {0, math.MinInt},
	} {
		for _, proto := range []int{0, 6, 17, 1, 58, 50, -6} {
			wantNoTrans(t, "places", b, View{Head: c[0], Total: c[1], Proto: proto}, api.ErrHeader)
			wantNoTrans(t, "places of nothing", nil, View{Head: c[0], Total: c[1], Proto: proto}, api.ErrHeader)
		}
	}
	for _, proto := range []int{0, 6, 17, 1, 58, 50} {
		wantNoTrans(t, "a fragment", b, View{Head: 0, Total: 30, Proto: proto, Frag: true}, api.ErrHeader)
		wantNoTrans(t, "a fragment without a body", b, View{Head: 30, Total: 30, Proto: proto, Frag: true}, api.ErrHeader)
	}
	wantTrans(t, "no bytes", nil, View{}, Trans{})
	wantTrans(t, "all bytes", b, View{Total: 30}, Trans{Data: 30})
	wantTrans(t, "no body", b, View{Head: 30, Total: 30}, Trans{Head: 30})
	wantTrans(t, "what says where a fragment's bytes belong", b, View{Total: 30, Off: 8, More: true}, Trans{Data: 30})
}

func TestTransportOfOtherProtocols(t *testing.T) {
	for _, v6 := range families {
		for _, proto := range []int{0, 2, 41, 50, 59, 255} {
			b, v := carried(t, v6, proto, []byte("xyz"))
			wantTrans(t, "another one", append(b, 1, 2), v, Trans{Head: v.Head, Data: 3})
		}
		b, v := carried(t, v6, 50, bytes.Repeat([]byte{8}, 20))
		for _, proto := range []int{-1, -6, 256 + 6, 256 + 17, math.MinInt, math.MaxInt} {
			v.Proto = proto
			wantTrans(t, "no protocol", b, v, Trans{Head: v.Head, Data: 20})
		}
	}
}

func TestTransportOfTCP(t *testing.T) {
	for _, v6 := range families {
		for options := 0; options <= 40; options += 4 {
			for _, data := range []string{"", "a", "ab", "hello"} {
				b, v := carried(t, v6, api.ProtoTCP, rawTCP(0xff, make([]byte, options), []byte(data)))
				wanted := Trans{SPort: 5000, DPort: 80, Seq: 0x01020304, Ack: 0x0a0b0c0d, Flags: 0xff, Window: 0x2000, Head: v.Head + 20 + options, Data: len(data)}
				wantTrans(t, "a segment", b, v, wanted)
				wantTrans(t, "bytes behind it", append(b, 9, 9, 9), v, wanted)
			}
		}
	}
}

func TestTransportOfTheGreatestNumbers(t *testing.T) {
	for _, v6 := range families {
		b, v := carried(t, v6, api.ProtoTCP, append(bytes.Repeat([]byte{255}, 20), make([]byte, 40)...))
		wantTrans(t, "TCP", b, v, Trans{SPort: 65535, DPort: 65535, Seq: math.MaxUint32, Ack: math.MaxUint32, Flags: 255, Window: 65535, Head: v.Head + 60})
		b, v = carried(t, v6, api.ProtoUDP, unhex("ffff ffff 0008 0000"))
		wantTrans(t, "UDP", b, v, Trans{SPort: 65535, DPort: 65535, Head: v.Head + 8})
	}
}

func TestTransportOfWrongTCP(t *testing.T) {
	for _, v6 := range families {
		for n := range 20 {
			b, v := carried(t, v6, api.ProtoTCP, rawTCP(2, nil, nil)[:n])
			wantNoTrans(t, "a part of a header", b, v, api.ErrShort)
			wantNoTrans(t, "a part of a header, and bytes behind it", append(b, make([]byte, 20)...), v, api.ErrShort)
		}
		for words := range 16 {
			segment := rawTCP(2, nil, []byte("123456789"))
			segment[12] = byte(words<<4 | 15) // what is below it says nothing
			b, v := carried(t, v6, api.ProtoTCP, segment)
			switch {
			case words < 5:
				wantNoTrans(t, "length", b, v, api.ErrHeader)
				wantNoTrans(t, "length ahead of the sum", spoil(b), v, api.ErrHeader)
			case words > 7:
				wantNoTrans(t, "length", b, v, api.ErrShort)
				wantNoTrans(t, "length, and bytes behind it", append(b, make([]byte, 40)...), v, api.ErrShort)
				wantNoTrans(t, "length ahead of the sum", spoil(b), v, api.ErrShort)
			default:
				if x, e := Transport(b, v); e != api.OK || x.Head != v.Head+4*words || x.Data != 29-4*words {
					t.Errorf("length %d: %+v, %d", words, x, e)
				}
				wantNoTrans(t, "sum", spoil(b), v, api.ErrSum)
			}
		}
	}
}

// spoil answers the packet with its last byte another one.
func spoil(b []byte) []byte {
	p := bytes.Clone(b)
	p[len(p)-1]++
	return p
}

// TestTransportLooksAtEachBit of body and addresses: ErrSum, if one is another one.
func TestTransportLooksAtEachBit(t *testing.T) {
	for _, v6 := range families {
		icmp, kind := api.ProtoICMP, 8
		if v6 {
			icmp, kind = api.ProtoICMP6, 128
		}
		for proto, segment := range map[int][]byte{api.ProtoTCP: rawTCP(16, nil, []byte("abc")), api.ProtoUDP: rawUDP([]byte("abc")), icmp: rawICMP(kind, 0, "1234 0001 616263")} {
			b, v := carried(t, v6, proto, segment)
			for i := v.Head; i < v.Total; i++ {
				at := i - v.Head
				if proto == api.ProtoTCP && at == 12 || proto == api.ProtoUDP && (at == 4 || at == 5) {
					continue // these have their own errors
				}
				for bit := range 8 {
					p := bytes.Clone(b)
					p[i] ^= 1 << bit
					wantNoTrans(t, "a bit of the body", p, v, api.ErrSum)
				}
			}
			for bit := range 32 {
				w, x := v, v
				w.Src.Lo ^= 1 << bit
				x.Dst.Lo ^= 1 << bit
				if proto == api.ProtoICMP {
					continue
				}
				wantNoTrans(t, "a bit of the source", b, w, api.ErrSum)
				wantNoTrans(t, "a bit of the destination", b, x, api.ErrSum)
			}
		}
	}
}

func TestTransportOfUDP(t *testing.T) {
	for _, v6 := range families {
		for _, data := range []string{"", "a", "ab"} {
			b, v := carried(t, v6, api.ProtoUDP, rawUDP([]byte(data)))
			wanted := Trans{SPort: 5000, DPort: 53, Head: v.Head + 8, Data: len(data)}
			wantTrans(t, "a datagram", b, v, wanted)
			wantTrans(t, "bytes behind it", append(bytes.Clone(b), 9), v, wanted)
			bare := bytes.Clone(b)
			clear(body(bare, v)[6:8])
			if v6 {
				wantNoTrans(t, "no sum", bare, v, api.ErrSum)
			} else {
				wantTrans(t, "no sum", bare, v, wanted)
			}
			v.V6 = !v.V6 // the pseudo header does not go by it, but whether there may be no sum does
			wantTrans(t, "another V6", b, v, wanted)
			if v6 {
				wantTrans(t, "no sum, another V6", bare, v, wanted)
			} else {
				wantNoTrans(t, "no sum, another V6", bare, v, api.ErrSum)
			}
		}
	}
}

func TestTransportOfWrongUDP(t *testing.T) {
	for _, v6 := range families {
		for n := range 8 {
			b, v := carried(t, v6, api.ProtoUDP, rawUDP(nil)[:n])
			wantNoTrans(t, "a part of a header", b, v, api.ErrShort)
			wantNoTrans(t, "a part of a header, and bytes behind it", append(b, make([]byte, 20)...), v, api.ErrShort)
		}
		for _, n := range []uint16{0, 7, 8, 9, 10, 12, 13, 256 + 11, 65535} {
			datagram := rawUDP([]byte("abc"))
			big.PutUint16(datagram[4:], n)
			b, v := carried(t, v6, api.ProtoUDP, datagram)
			wantNoTrans(t, "length", b, v, api.ErrHeader)
			wantNoTrans(t, "length ahead of the sum", spoil(b), v, api.ErrHeader)
			clear(body(b, v)[6:8])
			wantNoTrans(t, "length ahead of no sum", b, v, api.ErrHeader)
		}
	}
	long := make([]byte, 65536+8)
	long[5] = 8
	wantNoTrans(t, "a length that is as many only in 16 bits", long, View{Total: len(long), Proto: api.ProtoUDP, Src: hostA, Dst: hostB}, api.ErrHeader)
}

func TestTransportOfICMP(t *testing.T) {
	for _, v6 := range families {
		proto := api.ProtoICMP
		if v6 {
			proto = api.ProtoICMP6
		}
		for kind := range 256 {
			b, v := carried(t, v6, proto, rawICMP(kind, 7, "fedc 0001 61"))
			wanted := Trans{Type: kind, Code: 7, Head: v.Head + 8, Data: 1}
			if !v6 && (kind == 8 || kind == 0) || v6 && (kind == 128 || kind == 129) {
				wanted.SPort, wanted.DPort = 0xfedc, 0xfedc
			}
			wantTrans(t, "a message", b, v, wanted)
			wantNoTrans(t, "sum", spoil(b), v, api.ErrSum)
		}
		for n := range 8 {
			b, v := carried(t, v6, proto, make([]byte, n))
			wantNoTrans(t, "a part of a header", b, v, api.ErrShort)
			wantNoTrans(t, "a part of a header, and bytes behind it", append(b, make([]byte, 20)...), v, api.ErrShort)
		}
	}
	// A sum of 0 is one like all others.
	b, v := carried(t, false, api.ProtoICMP, unhex("0800 0000 ffff 0001"))
	if got := body(b, v)[2:4]; got[0] != 0xf7 || got[1] != 0xfe {
		t.Errorf("a sum by hand: %x", got)
	}
	zero := unhex("08ff 0000 f700 0000")
	wantTrans(t, "a sum of 0", zero, View{Total: 8, Proto: api.ProtoICMP}, Trans{Type: 8, Code: 255, SPort: 0xf700, DPort: 0xf700, Head: 8})
}

// TestTransportGoesByTheAddresses of a view, whatever V6 says, also if they are of both families, or if the body is longer than a packet.
func TestTransportGoesByTheAddresses(t *testing.T) {
	r := rand.New(rand.NewSource(3))
	for _, src := range []api.Addr{hostA, six1, {}} {
		for _, dst := range []api.Addr{hostB, six2, {}} {
			for _, n := range []int{0, 3, 2100, 65535 - 20, 65536 - 20, 65536, 70001} {
				for _, v6 := range families {
					b := rawTCP(16, nil, someBytes(r, n))
					big.PutUint16(b[16:], uint16(modelBodySum(src, dst, 6, b)))
					v := View{V6: v6, Head: 0, Total: len(b), Proto: 6, Src: src, Dst: dst}
					wantTrans(t, "a segment", b, v, Trans{SPort: 5000, DPort: 80, Seq: 0x01020304, Ack: 0x0a0b0c0d, Flags: 16, Window: 0x2000, Head: 20, Data: n})
				}
			}
		}
	}
}

// TestTransportOfMostBytes: how many they are has four bytes in the pseudo header of IPv6, two in that of IPv4.
func TestTransportOfMostBytes(t *testing.T) {
	for _, src := range []api.Addr{hostA, six1} {
		b := rawTCP(16, nil, make([]byte, 3<<24+5<<16))
		big.PutUint16(b[16:], uint16(modelBodySum(src, six2, 6, b)))
		x, e := Transport(b, View{Total: len(b), Proto: 6, Src: src, Dst: six2})
		if e != api.OK || x.Data != len(b)-20 {
			t.Errorf("%d bytes: %+v, %d", len(b), x, e)
		}
	}
}

func TestTransportBehindAFragmentHeader(t *testing.T) {
	b, v := carried(t, true, api.ProtoFrag, behindFrag(6, 0, 77, rawTCP(16, nil, []byte("abc"))))
	wantTrans(t, "of what is no fragment", b, v, Trans{SPort: 5000, DPort: 80, Seq: 0x01020304, Ack: 0x0a0b0c0d, Flags: 16, Window: 0x2000, Head: 68, Data: 3})
	b, v = carried(t, true, api.ProtoFrag, behindFrag(6, 1, 77, rawTCP(16, nil, []byte("abc"))))
	wantNoTrans(t, "of a fragment", b, v, api.ErrHeader)
}

func TestTransportIsWhatTheModelSays(t *testing.T) {
	r := rand.New(rand.NewSource(4))
	count := map[[2]int]int{}
	for range 40000 {
		b := somePacket(r, r.Intn(2) == 0, 1)
		v, e := Parse(b)
		if e != api.OK {
			continue
		}
		for range r.Intn(5) / 4 {
			n := pick(r, -1, 0, 1, 7, 8, 19, 20, r.Intn(len(b)+2))
			switch r.Intn(5) {
			case 0:
				v.Head = n
			case 1:
				v.Total = n
			case 2:
				v.Frag = !v.Frag
			case 3:
				v.Proto = pick(r, 6, 17, 1, 58, 0)
			default:
				v.V6 = !v.V6
			}
		}
		x, e := Transport(b, v)
		if wanted, wantE := modelTransport(b, v); x != wanted || e != wantE {
			t.Fatalf("Transport(%x, %+v): %+v, %d; want %+v, %d", b, v, x, e, wanted, wantE)
		}
		count[[2]int{v.Proto, int(e)}]++
	}
	for _, proto := range []int{6, 17, 1, 58} {
		for _, e := range []api.Errno{api.OK, api.ErrHeader, api.ErrShort, api.ErrSum} {
			if count[[2]int{proto, int(e)}] < 10 {
				t.Errorf("%d of protocol %d only %d times", e, proto, count[[2]int{proto, int(e)}])
			}
		}
	}
}

// P4.4

func TestKey(t *testing.T) {
	v := View{V6: true, Head: 1, Total: 2, TTL: 3, Proto: 4, Src: six1, Dst: hostB, Frag: true, ID: 5, Off: 6, More: true}
	x := Trans{SPort: -7, DPort: 80000, Seq: 8, Ack: 9, Flags: 10, Window: 11, Type: 12, Code: 13, Head: 14, Data: 15}
	if k := Key(v, x); k != (api.Key{Proto: 4, Src: six1, Dst: hostB, SPort: -7, DPort: 80000}) {
		t.Errorf("%+v", k)
	}
	if k := Key(View{}, Trans{}); k != (api.Key{}) {
		t.Errorf("%+v", k)
	}
}
