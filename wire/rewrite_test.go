package wire

import (
	"bytes"
	"math"
	"math/rand"
	"testing"

	"sallyport/api"
)

// P4.7

// keyOf answers the key of a packet that is right.
func keyOf(t *testing.T, b []byte) api.Key {
	t.Helper()
	v, x, e := open(b)
	if e != api.OK {
		t.Fatalf("%x: %d", b, e)
	}
	return Key(v, x)
}

// wantRewrite checks a packet by one that is not right but for its sums.
func wantRewrite(t *testing.T, what string, b []byte, c Change, wanted []byte) {
	t.Helper()
	p, e := Rewrite(b, c)
	if !bytes.Equal(p, wanted) || e != api.OK {
		t.Errorf("%s: Rewrite(%x, %+v):\n%x, %d; want\n%x", what, b, c, p, e, wanted)
	}
}

func wantNoRewrite(t *testing.T, what string, b []byte, c Change, wanted api.Errno) {
	t.Helper()
	if p, e := Rewrite(b, c); len(p) != 0 || e != wanted {
		t.Errorf("%s: Rewrite(%x, %+v): %x, %d; want %d", what, b, c, p, e, wanted)
	}
}

// changeTo answers what makes the packet's addresses others, with those ports.
func changeTo(v6 bool, proto, sport, dport int) Change {
	c := Change{Key: api.Key{Proto: proto, Src: hostC, Dst: hostA, SPort: sport, DPort: dport}, TTL: 9}
	if v6 {
		c.Key.Src, c.Key.Dst = six3, six1
	}
	return c
}

// changedHead answers the packet with what changeTo makes of its network header.
func changedHead(b []byte, v6 bool) []byte {
	p := bytes.Clone(b)
	modelHead(p, v6, changeTo(v6, 0, 0, 0).Key, 9)
	return p
}

func TestRewriteOfTCP(t *testing.T) {
	for _, v6 := range families {
		for _, flags := range []int{0, Syn, Fin, Rst, 8, 0xff &^ Ack, Ack, Syn | Ack, 0xff} {
			b, v := carried(t, v6, 6, rawTCP(flags, unhex("01 01 05 0a fffffff0 00000010"), []byte("abc")))
			wanted := changedHead(b, v6)
			copy(body(wanted, v), unhex("fffe 0001 01020314"))
			c := changeTo(v6, 6, 0xfffe, 1)
			c.SeqAdd, c.AckAdd = 0x10, 0xf0000020
			if flags&Ack != 0 {
				copy(body(wanted, v)[8:], unhex("fa0b0c2d"))
				copy(body(wanted, v)[24:], unhex("f0000010 f0000030"))
			}
			wantRewrite(t, "a segment", b, c, modelFix(wanted))
			wantRewrite(t, "bytes behind it", append(b, 1, 2, 3), c, modelFix(wanted))
		}
	}
}

func TestRewriteOfTCPGoesRound(t *testing.T) {
	b, v := carried(t, false, 6, rawTCP(Ack, nil, nil))
	for _, n := range []uint32{0, 1, math.MaxUint32, 1 << 31, math.MaxUint32 - 0x01020303, 0xfefdfcfc} {
		k := keyOf(t, b)
		p, e := Rewrite(b, Change{Key: k, SeqAdd: n, AckAdd: ^n})
		x, f := Transport(p, v)
		if e != api.OK || f != api.OK || x.Seq != 0x01020304+n || x.Ack != 0x0a0b0c0d+^n {
			t.Errorf("%x added: %+v, %d, %d", n, x, e, f)
		}
	}
}

// TestRewriteOfOptions: numbers that get 1 end with 0a, others with 0b.
func TestRewriteOfOptions(t *testing.T) {
	for _, s := range []string{
		"",
		"05 0a 0000000a 0000000a 01 01",
		"01 01 05 0a 0000000a 0000000a",
		"01 01 05 12 0000000a 0000000a 0000000a 0000000a",
		"01 01 05 22 0000000a 0000000a 0000000a 0000000a 0000000a 0000000a 0000000a 0000000a 00 00",
		"05 0a 0000000a 0000000a 05 0a 0000000a 0000000a",         // two of them
		"05 02 05 0a 0000000a 0000000a",                           // one that holds nothing
		"02 04 05b4 01 03 03 07 01 01 05 0a 0000000a 0000000a",    // behind others
		"08 0a 0000000b 0000000b 01 01 05 0a 0000000a 0000000a",   // which may hold numbers, too
		"04 02 05 0a 0000000a 0000000a 00 00 00 00",               // ahead of the end
		"05 0a 0000000a 0000000a 00 05 0a 0000000b 0000000b 00",   // behind the end nothing counts
		"00 05 0a 0000000b 0000000b 01",                           //
		"05 06 0000000b 01 01",                                    // no multiple of 8
		"05 0e 0000000b 0000000b 0000000b 01 01",                  //
		"05 0b 0000000b 0000000b 01 00",                           //
		"05 09 0000000b 00000b 01 01 01",                          //
		"05 03 01 05 0a 0000000a 0000000a 01 01 01",               // one that is not right ahead of one that is
		"06 0a 0000000b 0000000b 01 01",                           // of other kinds
		"ff 0a 0000000b 0000000b 05 0a 0000000a 0000000a",         //
		"05 01 05 0a 0000000b 0000000b",                           // a length of 1: none behind it
		"05 00 05 0a 0000000b 0000000b",                           // of 0
		"03 00 05 0a 0000000b 0000000b",                           //
		"07 01 05 0a 0000000b 0000000b",                           //
		"05 12 0000000b 0000000b 01 01",                           // more than is left
		"01 01 01 05 0a 0000000b 000000",                          // just one byte more
		"05 0d 0000000b 0000000b 01 01",                           //
		"05 ff 0000000b 0000000b 01 01",                           //
		"07 0f 05 0a 0000000b 0000000b",                           //
		"05 0a 0000000a 0000000a 01 05",                           // one without a length
		"01 01 01 05",                                             //
		"05 0a 0000000a 0000000a 02 09",                           // none behind what is right
		"01 01 01 01 01 01 01 01 01 01 05 0a 0000000a 0000000a",   //
		"02 0c 0b0b0b0b0b0b0b0b0b0b 05 0a 0000000a 0000000a 0101", //
	} {
		options := unhex(s)
		options = append(options, make([]byte, -len(options)&3)...)
		for _, v6 := range families {
			b, v := carried(t, v6, 6, rawTCP(Ack, options, unhex("05 0a 0000000b 0000000b"))) // data are no options
			wanted := changedHead(b, v6)
			segment := body(wanted, v)
			copy(segment, unhex("0007 0008 01020304 0a0b0c0e"))
			for i := 20; i < len(segment)-10; i++ {
				if segment[i] == 10 && segment[i-1] == 0 && segment[i-2] == 0 {
					segment[i]++
				}
			}
			c := changeTo(v6, 6, 7, 8)
			c.AckAdd = 1
			wantRewrite(t, s, b, c, modelFix(wanted))
		}
	}
}

func TestRewriteOfUDP(t *testing.T) {
	for _, v6 := range families {
		b, v := carried(t, v6, 17, rawUDP([]byte("abc")))
		wanted := changedHead(b, v6)
		copy(body(wanted, v), unhex("0000 ffff"))
		c := changeTo(v6, 17, 0, 65535)
		c.SeqAdd, c.AckAdd = 1, 2
		wantRewrite(t, "a datagram", b, c, modelFix(wanted))
		wantRewrite(t, "bytes behind it", append(bytes.Clone(b), 1, 2, 3), c, modelFix(wanted))
		clear(body(b, v)[6:8])
		if v6 {
			wantNoRewrite(t, "no sum", b, c, api.ErrSum)
			continue
		}
		wanted = modelFix(wanted)
		clear(body(wanted, v)[6:8])
		wantRewrite(t, "no sum", b, c, wanted)
	}
}

func TestRewriteOfUDPWhoseSumWouldBe0(t *testing.T) {
	for _, v6 := range families {
		c := changeTo(v6, 17, 7, 8)
		b, v := carried(t, v6, 17, rawUDP([]byte{0, 0}))
		p, _ := Rewrite(b, c)
		b, v = carried(t, v6, 17, rawUDP(body(p, v)[6:8]))
		p, e := Rewrite(b, c)
		if e != api.OK || !bytes.Equal(body(p, v)[6:8], []byte{255, 255}) {
			t.Errorf("%x, %d", p, e)
		}
	}
}

func TestRewriteOfICMP(t *testing.T) {
	for _, v6 := range families {
		proto := api.ProtoICMP
		if v6 {
			proto = api.ProtoICMP6
		}
		for kind := range 256 {
			b, v := carried(t, v6, proto, rawICMP(kind, 7, "fedc 0001 616263"))
			wanted := changedHead(b, v6)
			if modelEcho(v6, kind) {
				copy(body(wanted, v)[4:], unhex("1234"))
			}
			for _, dport := range []int{0x1234, 0, 65535} { // it counts nowhere
				wantRewrite(t, "a message", b, changeTo(v6, proto, 0x1234, dport), modelFix(wanted))
			}
			wantNoRewrite(t, "a port that is none", b, changeTo(v6, proto, 0x1234, 65536), api.ErrArg)
		}
	}
}

func TestRewriteOfOthers(t *testing.T) {
	for _, v6 := range families {
		for _, n := range []int{0, 1, 7, 30} {
			b, _ := carried(t, v6, 50, make([]byte, n))
			wantRewrite(t, "another protocol", append(b, 5), changeTo(v6, 50, 1, 2), modelFix(changedHead(b, v6)))
		}
	}
	b, v := carried(t, true, api.ProtoFrag, behindFrag(17, 0, 77, rawUDP([]byte("abc"))))
	wanted := changedHead(b, true)
	copy(body(wanted, v), unhex("0003 0004"))
	wantRewrite(t, "behind a fragment header", b, changeTo(true, 17, 3, 4), modelFix(wanted))
	b = raw4(hostA, hostB, 50, []byte("abc"))
	copy(b, unhex("45fe0017abcd0000")) // what is not named stays
	b = modelFix(b)
	wantRewrite(t, "bits of the header", b, changeTo(false, 50, 0, 0), modelFix(changedHead(b, false)))
	b = raw6(six1, six2, 50, []byte("abc"))
	copy(b, unhex("6fedcba9"))
	wantRewrite(t, "bits of the header", b, changeTo(true, 50, 0, 0), changedHead(b, true))
}

func TestRewriteOfWrongPackets(t *testing.T) {
	c := changeTo(false, 99, -1, -1) // its ErrArg comes behind all these
	wantNoRewrite(t, "nothing", nil, c, api.ErrShort)
	wantNoRewrite(t, "version", []byte{0x50}, c, api.ErrVersion)
	wantNoRewrite(t, "too many bytes", make([]byte, api.MaxPacket+1), c, api.ErrHeader)
	for _, v6 := range families {
		b, _ := carried(t, v6, 6, rawTCP(2, nil, nil))
		wantNoRewrite(t, "cut off", b[:len(b)-1], c, api.ErrShort)
		wantNoRewrite(t, "the transport's sum", spoil(b), c, api.ErrSum)
		b, _ = carried(t, v6, 6, rawTCP(2, nil, nil)[:19])
		wantNoRewrite(t, "a part of a header", b, c, api.ErrShort)
		segment := rawTCP(2, nil, nil)
		segment[12] = 0x40
		b, _ = carried(t, v6, 6, segment)
		wantNoRewrite(t, "the transport's length", b, c, api.ErrHeader)
	}
	b := raw4(hostA, hostB, 17, rawUDP(nil))
	b[8]++
	wantNoRewrite(t, "the header's sum", b, c, api.ErrSum)
	b[6] = 0x20
	wantNoRewrite(t, "a fragment", modelFix(b), changeTo(false, 17, 1, 2), api.ErrHeader)
	wantNoRewrite(t, "a fragment", raw6(six1, six2, api.ProtoFrag, behindFrag(17, 8, 77, rawUDP(nil))), changeTo(true, 17, 1, 2), api.ErrHeader)
}

func TestRewriteOfWrongChanges(t *testing.T) {
	for _, v6 := range families {
		other, four := hostA, api.Addr{Hi: 1, Lo: hostA.Lo}
		if v6 {
			other, four = six1, api.Addr{Lo: 0xffff00000000}
		}
		icmp := api.ProtoICMP
		if v6 {
			icmp = api.ProtoICMP6
		}
		for proto, segment := range map[int][]byte{6: rawTCP(2, nil, nil), 17: rawUDP(nil), icmp: rawICMP(8, 0, "0000 0000"), 50: nil} {
			b, _ := carried(t, v6, proto, segment)
			right := changeTo(v6, proto, 5, 6)
			right.Key.Src = other
			if _, e := Rewrite(b, right); e != api.OK {
				t.Errorf("what is right: %d", e)
			}
			for _, spoil := range []func(*Change){
				func(c *Change) { c.Key.Proto++ },
				func(c *Change) { c.Key.Proto += 256 },
				func(c *Change) { c.Key.Proto = 0 },
				func(c *Change) { c.Key.Proto = -proto },
				func(c *Change) { c.Key.Src = four },
				func(c *Change) { c.Key.Dst = four },
				func(c *Change) { c.Key.Src, c.Key.Dst = four, four },
				func(c *Change) { c.Key.SPort = -1 },
				func(c *Change) { c.Key.SPort = 65536 },
				func(c *Change) { c.Key.SPort = math.MaxInt },
				func(c *Change) { c.Key.DPort = -1 },
				func(c *Change) { c.Key.DPort = 65536 },
				func(c *Change) { c.Key.DPort = math.MinInt },
				func(c *Change) { c.TTL = -1 },
				func(c *Change) { c.TTL = 256 },
				func(c *Change) { c.TTL = math.MinInt },
				func(c *Change) { c.TTL = math.MaxInt },
			} {
				c := right
				spoil(&c)
				wantNoRewrite(t, "a change that may not be", b, c, api.ErrArg)
			}
			for _, ttl := range []int{0, 255} {
				c := right
				c.TTL, c.Key.SPort, c.Key.DPort = ttl, 0, 65535
				if p, e := Rewrite(b, c); e != api.OK {
					t.Errorf("the ends of numbers: %x, %d", p, e)
				}
			}
		}
	}
}

func TestRewriteIsWhatTheModelSays(t *testing.T) {
	r := rand.New(rand.NewSource(6))
	right := map[int]int{}
	for range 40000 {
		v6 := r.Intn(2) == 0
		b := somePacket(r, v6, 1)
		v, _ := Parse(b)
		n := r.Intn(65536)
		c := Change{Key: api.Key{Proto: v.Proto, Src: someHost(r, v.V6), Dst: someHost(r, v.V6), SPort: n, DPort: pick(r, n, r.Intn(65536))}, TTL: r.Intn(256), SeqAdd: r.Uint32(), AckAdd: r.Uint32()}
		p, e := Rewrite(b, c)
		wanted, wantE := modelRewrite(b, c)
		if !bytes.Equal(p, wanted) || e != wantE {
			t.Fatalf("Rewrite(%x, %+v):\n%x, %d; want\n%x, %d", b, c, p, e, wanted, wantE)
		}
		if e == api.OK {
			right[v.Proto]++
		}
	}
	for _, proto := range []int{6, 17, 1, 58, 50, 0} {
		if right[proto] < 500 {
			t.Errorf("of protocol %d only %d are right", proto, right[proto])
		}
	}
}

// P4.11

func TestKeyOfRewriteIsTheChange(t *testing.T) {
	r := rand.New(rand.NewSource(7))
	for range 20000 {
		b := somePacket(r, r.Intn(2) == 0, 1)
		v, x, e := open(b)
		if e != api.OK {
			continue
		}
		k := api.Key{Proto: v.Proto, Src: someHost(r, v.V6), Dst: someHost(r, v.V6)}
		switch {
		case v.Proto == 6 || v.Proto == 17:
			k.SPort, k.DPort = r.Intn(65536), r.Intn(65536)
		case (v.Proto == 1 || v.Proto == 58) && modelEcho(v.V6, x.Type):
			k.SPort = r.Intn(65536)
			k.DPort = k.SPort
		}
		p, e := Rewrite(b, Change{Key: k, TTL: 77, SeqAdd: r.Uint32(), AckAdd: r.Uint32()})
		if e != api.OK || len(p) != v.Total {
			t.Fatalf("Rewrite(%x): %x, %d", b, p, e)
		}
		if got := keyOf(t, p); got != k {
			t.Fatalf("Rewrite(%x, %+v): %+v", b, k, got)
		}
		if w, _ := Parse(p); w.TTL != 77 {
			t.Fatalf("TTL %d", w.TTL)
		}
	}
}

func TestRewriteWithTheOwnKeyChangesNothing(t *testing.T) {
	r := rand.New(rand.NewSource(8))
	for range 20000 {
		b := somePacket(r, r.Intn(2) == 0, 1)
		v, x, e := open(b)
		if e != api.OK {
			continue
		}
		p, e := Rewrite(b, Change{Key: Key(v, x), TTL: v.TTL})
		if e != api.OK {
			t.Fatalf("Rewrite(%x): %d", b, e)
		}
		wanted := bytes.Clone(b[:v.Total])
		at := map[int]int{6: 16, 17: 6, 1: 2, 58: 2}[v.Proto]
		for _, i := range []int{10, v.Head + at} { // 0 and 65535 are one sum
			if (i != 10 || !v.V6) && (i == 10 || at > 0) && big.Uint16(p[i:])%65535 == big.Uint16(wanted[i:])%65535 {
				copy(p[i:], wanted[i:i+2])
			}
		}
		wantBytes(t, "the same", p, wanted)
	}
}
