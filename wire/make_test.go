package wire

import (
	"bytes"
	"math"
	"math/rand"
	"testing"

	"sallyport/addr"
	"sallyport/api"
)

// P4.5

func wantPacket(t *testing.T, what string, src, dst api.Addr, proto, ttl int, body, wanted []byte) {
	t.Helper()
	p, e := Packet(src, dst, proto, ttl, body)
	if !bytes.Equal(p, wanted) || e != api.OK {
		t.Errorf("%s:\n%x, %d; want\n%x", what, p, e, wanted)
	}
}

// TestPacket has its bytes from elsewhere.
func TestPacket(t *testing.T) {
	tcp := TCP(5000, 80, 0x01020304, 0x0a0b0c0d, Syn|Ack, 0x2000, []byte("hello"))
	udp := UDP(1, 2, []byte("a"))
	echo := rawICMP(8, 0, "1234 0001 70696e67")
	echo6 := rawICMP(128, 0, "1234 0001 70696e67")
	wantPacket(t, "UDP", hostA, hostB, 17, 64, udp, unhex("4500001d00004000401126ce0a0000010a0000020001000200098ad661"))
	wantPacket(t, "UDP", six1, six2, 17, 64, udp, unhex("600000000009114020010db800000000000000000000000120010db8000000000000000000000002000100020009436461"))
	wantPacket(t, "TCP", hostA, hostB, 6, 1, tcp, unhex("4500002d00004000010665c90a0000010a00000213880050010203040a0b0c0d501220000a03000068656c6c6f"))
	wantPacket(t, "TCP", six1, six2, 6, 255, tcp, unhex("60000000001906ff20010db800000000000000000000000120010db800000000000000000000000213880050010203040a0b0c0d50122000c290000068656c6c6f"))
	wantPacket(t, "ICMP", hostA, hostB, 1, 64, echo, unhex("4500002000004000400126db0a0000010a000002080006fa1234000170696e67"))
	wantPacket(t, "ICMP", six1, six2, 58, 64, echo6, unhex("60000000000c3a4020010db800000000000000000000000120010db80000000000000000000000028000333e1234000170696e67"))
	wantPacket(t, "another one", hostA, hostB, 50, 64, []byte("xyz"), unhex("4500001700004000403226b30a0000010a00000278797a"))
	wantPacket(t, "another one", six1, six2, 50, 0, []byte("xyz"), unhex("600000000003320020010db800000000000000000000000120010db800000000000000000000000278797a"))
	wantPacket(t, "no body", hostC, hostA, 0, 255, nil, raw4ttl(hostC, hostA, 0, 255, nil))
	wantPacket(t, "no body", six3, six2, 0, 255, nil, unhex("60000000000000ff fe80000000000000fedcba9876543210 20010db8000000000000000000000002"))
}

// raw4ttl answers an IPv4 packet with another TTL.
func raw4ttl(src, dst api.Addr, proto, ttl int, body []byte) []byte {
	p := raw4(src, dst, proto, body)
	p[8] = byte(ttl)
	return modelFix(p)
}

// TestPacketSetsSums of bodies that are long enough, of no other ones, and in no other place.
func TestPacketSetsSums(t *testing.T) {
	for _, v6 := range families {
		src, dst, f := hostA, hostB, familyOf(v6)
		if v6 {
			src, dst = six1, six2
		}
		for proto := range 256 {
			if !f.carries(proto) || proto == api.ProtoFrag {
				continue
			}
			least, at := map[int]int{6: 20, 17: 8, 1: 8, 58: 8}[proto], map[int]int{6: 16, 17: 6, 1: 2, 58: 2}[proto]
			for _, n := range []int{0, 1, 7, 8, 9, 19, 20, 21, 60} {
				body := bytes.Repeat([]byte{0xa7}, n) // it has a sum already, which counts as 0
				p, e := Packet(src, dst, proto, 9, body)
				if e != api.OK || len(p) != f.size+n {
					t.Fatalf("Packet of %d with %d bytes: %x, %d", proto, n, p, e)
				}
				wanted := bytes.Clone(body)
				if least > 0 && n >= least {
					wanted[at], wanted[at+1] = 0, 0
					big.PutUint16(wanted[at:], uint16(modelBodySum(src, dst, proto, wanted)))
				}
				wantBytes(t, "body", p[f.size:], wanted)
			}
		}
	}
}

func TestPacketOfUDPWhoseSumWouldBe0(t *testing.T) {
	for _, v6 := range families {
		b := raw(v6, 17, UDP(1, 2, []byte{0, 0}))
		v, _ := Parse(b)
		sum := bytes.Clone(body(b, v)[6:8])
		p, e := Packet(v.Src, v.Dst, 17, 64, UDP(1, 2, sum))
		if e != api.OK || !bytes.Equal(body(p, v)[6:8], []byte{255, 255}) {
			t.Errorf("UDP: %x, %d", p, e)
		}
		if x, e := Transport(p, v); e != api.OK || x.SPort != 1 {
			t.Errorf("UDP: %+v, %d", x, e)
		}
		// Of the others 0 is a sum like all others.
		b = raw(v6, 6, TCP(1, 2, 0, 0, 0, 0, []byte{0, 0}))
		v, _ = Parse(b)
		sum = bytes.Clone(body(b, v)[16:18])
		p, e = Packet(v.Src, v.Dst, 6, 64, TCP(1, 2, 0, 0, 0, 0, sum))
		if e != api.OK || !bytes.Equal(body(p, v)[16:18], []byte{0, 0}) {
			t.Errorf("TCP: %x, %d", p, e)
		}
		if x, e := Transport(p, v); e != api.OK || x.SPort != 1 {
			t.Errorf("TCP: %+v, %d", x, e)
		}
	}
	p, e := Packet(hostA, hostB, 1, 64, unhex("08ff 1234 f700 0000"))
	if e != api.OK || !bytes.Equal(p[22:24], []byte{0, 0}) {
		t.Errorf("ICMP: %x, %d", p, e)
	}
}

func TestPacketOfWrongArguments(t *testing.T) {
	for _, c := range []struct {
		what       string
		src, dst   api.Addr
		proto, ttl int
		size       int
		wanted     api.Errno
	}{
		{"both families", hostA, six1, 17, 64, 8, api.ErrArg},
		{"both families", six1, hostA, 17, 64, 8, api.ErrArg},
		{"an address that is nearly IPv4", hostA, api.Addr{Hi: 1, Lo: hostB.Lo}, 17, 64, 8, api.ErrArg},
		{"all noughts", api.Addr{}, api.Addr{}, 17, 64, 8, api.OK},
		{"protocol", hostA, hostB, -1, 64, 8, api.ErrArg},
		{"protocol", hostA, hostB, 256, 64, 8, api.ErrArg},
		{"protocol", hostA, hostB, math.MaxInt, 64, 8, api.ErrArg},
		{"protocol", six1, six2, math.MinInt, 64, 8, api.ErrArg},
		{"protocol", six1, six2, 256 + 17, 64, 8, api.ErrArg},
		{"protocol", hostA, hostB, 0, 64, 8, api.OK},
		{"protocol", hostA, hostB, 255, 64, 8, api.OK},
		{"TTL", hostA, hostB, 17, -1, 8, api.ErrArg},
		{"TTL", hostA, hostB, 17, 256, 8, api.ErrArg},
		{"TTL", six1, six2, 17, math.MaxInt, 8, api.ErrArg},
		{"TTL", six1, six2, 17, math.MinInt, 8, api.ErrArg},
		{"TTL", hostA, hostB, 17, 0, 8, api.OK},
		{"TTL", six1, six2, 17, 255, 8, api.OK},
		{"fragment header", hostA, hostB, api.ProtoFrag, 64, 8, api.ErrArg},
		{"fragment header", six1, six2, api.ProtoFrag, 64, 8, api.ErrArg},
		{"ICMP", hostA, hostB, api.ProtoICMP, 64, 8, api.OK},
		{"ICMP", six1, six2, api.ProtoICMP, 64, 8, api.ErrArg},
		{"ICMP6", hostA, hostB, api.ProtoICMP6, 64, 8, api.ErrArg},
		{"ICMP6", six1, six2, api.ProtoICMP6, 64, 8, api.OK},
		{"MaxPacket", hostA, hostB, 17, 64, api.MaxPacket - 20, api.OK},
		{"MaxPacket", hostA, hostB, 17, 64, api.MaxPacket - 19, api.ErrArg},
		{"MaxPacket", six1, six2, 17, 64, api.MaxPacket - 40, api.OK},
		{"MaxPacket", six1, six2, 17, 64, api.MaxPacket - 39, api.ErrArg},
		{"far too many", six1, six2, 17, 64, 1 << 20, api.ErrArg},
	} {
		p, e := Packet(c.src, c.dst, c.proto, c.ttl, make([]byte, c.size))
		want(t, c.what, e, c.wanted)
		if e != api.OK && len(p) != 0 {
			t.Errorf("%s: %x", c.what, p)
		}
		if v, e := Parse(p); len(p) > 0 && (e != api.OK || v.Src != c.src || v.Dst != c.dst || v.Proto != c.proto || v.TTL != c.ttl || v.Total != len(p) || v.Frag || v.ID != 0) {
			t.Errorf("%s: %+v, %d", c.what, v, e)
		}
	}
}

// P4.6

func TestFlags(t *testing.T) {
	if Fin != 1 || Syn != 2 || Rst != 4 || Ack != 16 {
		t.Error(Fin, Syn, Rst, Ack)
	}
}

func TestTCP(t *testing.T) {
	wantBytes(t, "TCP", TCP(1, 2, 3, 4, 5, 6, nil), unhex("0001 0002 00000003 00000004 50 05 0006 0000 0000"))
	wantBytes(t, "TCP", TCP(0xfedc, 0x1234, 0xf1f2f3f4, 0x01f5f6f7, 0xab, 0x9876, []byte{7, 8, 9}), unhex("fedc 1234 f1f2f3f4 01f5f6f7 50 ab 9876 0000 0000 070809"))
	wantBytes(t, "lowest bits", TCP(0x1fedc, 0x7ffffff1234, 0, 0, 0x7fab, 0x59876, nil), unhex("fedc 1234 00000000 00000000 50 ab 9876 0000 0000"))
	wantBytes(t, "below 0", TCP(-1, -2, 0, 0, -3, -4, nil), unhex("ffff fffe 00000000 00000000 50 fd fffc 0000 0000"))
	wantBytes(t, "ends", TCP(math.MinInt, math.MaxInt, math.MaxUint32, 0, math.MinInt, math.MaxInt, nil), unhex("0000 ffff ffffffff 00000000 50 00 ffff 0000 0000"))
	if b := TCP(1, 2, 3, 4, 5, 6, make([]byte, 70000)); len(b) != 70020 || b[12] != 0x50 {
		t.Error("TCP of many bytes:", len(b))
	}
}

func TestUDP(t *testing.T) {
	wantBytes(t, "UDP", UDP(1, 2, nil), unhex("0001 0002 0008 0000"))
	wantBytes(t, "UDP", UDP(0xfedc, 0x1234, []byte{7, 8, 9}), unhex("fedc 1234 000b 0000 070809"))
	wantBytes(t, "lowest bits", UDP(0x1fedc, 0x7ffffff1234, nil), unhex("fedc 1234 0008 0000"))
	wantBytes(t, "below 0", UDP(-1, -2, nil), unhex("ffff fffe 0008 0000"))
	wantBytes(t, "ends", UDP(math.MinInt, math.MaxInt, nil), unhex("0000 ffff 0008 0000"))
	for _, n := range []int{247, 248, 65527, 65528, 65529, 70000} {
		b := UDP(1, 2, make([]byte, n))
		if len(b) != 8+n || int(big.Uint16(b[4:])) != (8+n)%65536 {
			t.Errorf("UDP of %d bytes: %d, %x", n, len(b), b[4:6])
		}
	}
}

// P4.11

func TestWhatPacketMakesIsRight(t *testing.T) {
	r := rand.New(rand.NewSource(5))
	for range 5000 {
		v6 := r.Intn(2) == 0
		src, dst, proto, ttl := someHost(r, v6), someHost(r, v6), pick(r, 6, 17, 50, 1), r.Intn(256)
		if proto == 1 && v6 {
			proto = 58
		}
		body := someBody(r, v6, proto, 0)
		p, e := Packet(src, dst, proto, ttl, body)
		v, f := Parse(p)
		if e != api.OK || f != api.OK || v.Src != src || v.Dst != dst || v.Proto != proto || v.TTL != ttl || v.Frag {
			t.Fatalf("Packet(%x, %x, %d, %d, %x): %x, %d; %+v, %d", src, dst, proto, ttl, body, p, e, v, f)
		}
		if _, e := Transport(p, v); e != api.OK {
			t.Fatalf("Transport(%x): %d", p, e)
		}
	}
	b, _ := Packet(addr.Of4(1), addr.Of4(2), 6, 3, TCP(4, 5, 6, 7, 8, 9, []byte("abc")))
	v, _ := Parse(b)
	wantTrans(t, "a segment", b, v, Trans{SPort: 4, DPort: 5, Seq: 6, Ack: 7, Flags: 8, Window: 9, Head: 40, Data: 3})
}
