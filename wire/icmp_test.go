package wire

import (
	"bytes"
	"math"
	"math/rand"
	"testing"

	"sallyport/addr"
	"sallyport/api"
)

// P4.8

func wantRefusal(t *testing.T, what string, b []byte, own api.Addr, code int, wanted []byte) {
	t.Helper()
	p, e := Refusal(b, own, code)
	if !bytes.Equal(p, wanted) || e != api.OK {
		t.Errorf("%s: Refusal(%x, %x, %d):\n%x, %d; want\n%x", what, b, own, code, p, e, wanted)
	}
}

func wantNoRefusal(t *testing.T, what string, b []byte, own api.Addr, code int, wanted api.Errno) {
	t.Helper()
	if p, e := Refusal(b, own, code); len(p) != 0 || e != wanted {
		t.Errorf("%s: Refusal(%x, %x, %d): %x, %d; want %d", what, b, own, code, p, e, wanted)
	}
}

func TestRefusal(t *testing.T) {
	for _, code := range []int{0, 1, 13, 255} {
		for n := range 70 {
			data := bytes.Repeat([]byte{0x61}, n)
			b := raw4(hostB, hostA, 50, data)
			wantRefusal(t, "IPv4", append(b, 1, 2, 3), hostC, code, raw4(hostC, hostB, 1, append([]byte{3, byte(code), 0, 0, 0, 0, 0, 0}, b[:min(28, len(b))]...)))
			b = raw6(six2, six1, 50, data)
			wantRefusal(t, "IPv6", append(b, 1, 2, 3), six3, code, raw6(six3, six2, 58, append([]byte{1, byte(code), 0, 0, 0, 0, 0, 0}, b[:min(56, len(b))]...)))
		}
	}
}

// TestRefusalAsksForParseAlone: a transport header that is none, and fragments, are refused, too.
func TestRefusalAsksForParseAlone(t *testing.T) {
	for _, v6 := range families {
		own := hostC
		if v6 {
			own = six3
		}
		for _, proto := range []int{0, 6, 17, 50} {
			for _, b := range [][]byte{spoil(raw(v6, proto, rawTCP(2, nil, nil))), raw(v6, proto, []byte{1})} {
				wanted, _ := modelRefusal(b, own, 4)
				wantRefusal(t, "no transport header", b, own, 4, wanted)
			}
		}
	}
	b := raw4(hostA, hostB, 17, make([]byte, 40))
	b[6], b[7] = 0x20, 1
	b = modelFix(b)
	wanted, _ := modelRefusal(b, hostC, 4)
	wantRefusal(t, "a fragment", b, hostC, 4, wanted)
	b = raw6(six1, six2, api.ProtoFrag, behindFrag(17, 9, 77, make([]byte, 40)))
	wanted, _ = modelRefusal(b, six3, 4)
	wantRefusal(t, "a fragment", b, six3, 4, wanted)
}

func TestRefusalOfWhatMayNotBe(t *testing.T) {
	wantNoRefusal(t, "nothing", nil, six1, -1, api.ErrShort)
	wantNoRefusal(t, "version", []byte{0x70}, six1, -1, api.ErrVersion)
	wantNoRefusal(t, "too many bytes", make([]byte, api.MaxPacket+1), six1, -1, api.ErrHeader)
	wantNoRefusal(t, "sum", append([]byte{0x45, 0, 0, 20}, make([]byte, 16)...), six1, -1, api.ErrSum)
	for _, v6 := range families {
		own, other, icmp := hostC, six1, api.ProtoICMP
		if v6 {
			own, other, icmp = six3, hostA, api.ProtoICMP6
		}
		b := raw(v6, 17, rawUDP(nil))
		wantNoRefusal(t, "family", b, other, 1, api.ErrArg)
		for _, code := range []int{-1, 256, math.MinInt, math.MaxInt} {
			wantNoRefusal(t, "code", b, own, code, api.ErrArg)
		}
		for _, kind := range []int{0, 3, 8, 128, 1} {
			b = raw(v6, icmp, rawICMP(kind, 0, "0000 0000"))
			wantNoRefusal(t, "ICMP", b, own, 1, api.ErrHeader)
			wantNoRefusal(t, "ICMP that is none", spoil(b), own, 1, api.ErrHeader)
			wantNoRefusal(t, "the family ahead of ICMP", b, other, 1, api.ErrArg)
			wantNoRefusal(t, "the code ahead of ICMP", b, own, 256, api.ErrArg)
		}
		wantNoRefusal(t, "ICMP without a body", raw(v6, icmp, nil), own, 1, api.ErrHeader)
	}
	wantNoRefusal(t, "IPv4 in bits alone", raw4(hostA, hostB, 17, nil), api.Addr{Hi: 1, Lo: hostA.Lo}, 1, api.ErrArg)
	wantNoRefusal(t, "ICMP behind a fragment header", raw6(six1, six2, api.ProtoFrag, behindFrag(api.ProtoICMP6, 9, 77, nil)), six3, 1, api.ErrHeader)
}

// P4.9

func wantQuoted(t *testing.T, what string, b []byte, wanted api.Key) {
	t.Helper()
	if k, ok := Quoted(b); k != wanted || !ok {
		t.Errorf("%s: Quoted(%x): %+v, %v; want %+v", what, b, k, ok, wanted)
	}
}

func wantNotQuoted(t *testing.T, what string, b []byte) {
	t.Helper()
	if k, ok := Quoted(b); k != (api.Key{}) || ok {
		t.Errorf("%s: Quoted(%x): %+v, %v", what, b, k, ok)
	}
}

// errorOf answers an error of that type which quotes those bytes.
func errorOf(v6 bool, kind int, quote []byte) []byte {
	proto := api.ProtoICMP
	if v6 {
		proto = api.ProtoICMP6
	}
	return raw(v6, proto, append([]byte{byte(kind), 9, 0, 0, 1, 2, 3, 4}, quote...))
}

// kindOf answers a type of errors.
func kindOf(v6 bool) int {
	if v6 {
		return 1
	}
	return 3
}

// quotes answers bytes that are quoted by protocols, and their keys, of the family.
func quotes(v6 bool) (map[int][]byte, map[int]api.Key) {
	src, dst, icmp, kind := hostA, hostB, 1, 8
	if v6 {
		src, dst, icmp, kind = six1, six2, 58, 128
	}
	bodies := map[int][]byte{6: rawTCP(2, nil, nil), 17: rawUDP(nil), icmp: rawICMP(kind, 0, "fedc 0001")}
	keys := map[int]api.Key{6: {SPort: 5000, DPort: 80}, 17: {SPort: 5000, DPort: 53}, icmp: {SPort: 0xfedc, DPort: 0xfedc}}
	for proto, k := range keys {
		k.Proto, k.Src, k.Dst = proto, src, dst
		keys[proto] = k
		bodies[proto] = raw(v6, proto, bodies[proto])
	}
	return bodies, keys
}

func TestQuoted(t *testing.T) {
	for _, v6 := range families {
		least := familyOf(v6).size + 8
		bodies, keys := quotes(v6)
		for proto, q := range bodies {
			for kind := range 256 {
				b := errorOf(v6, kind, q)
				if !v6 && (kind == 3 || kind == 11 || kind == 12) || v6 && kind >= 1 && kind <= 4 {
					wantQuoted(t, "an error", b, keys[proto])
				} else {
					wantNotQuoted(t, "no error", b)
				}
			}
			for n := range len(q) + 1 {
				b := errorOf(v6, kindOf(v6), q[:n])
				if n < least {
					wantNotQuoted(t, "a part", b)
					wantNotQuoted(t, "a part, and bytes behind it", append(b, q[n:]...))
				} else {
					wantQuoted(t, "enough", b, keys[proto])
				}
			}
			wantQuoted(t, "bytes behind the packet", append(errorOf(v6, kindOf(v6), q), 1), keys[proto])
			wantQuoted(t, "bytes behind the quote", errorOf(v6, kindOf(v6), append(q, make([]byte, 99)...)), keys[proto])
			wantNotQuoted(t, "the sum", spoil(errorOf(v6, kindOf(v6), q)))
			wantNotQuoted(t, "the packet itself", q)
			b := errorOf(v6, kindOf(v6), q)
			wantNotQuoted(t, "cut off", b[:len(b)-1])
		}
	}
	wantNotQuoted(t, "nothing", nil)
	wantNotQuoted(t, "too many bytes", make([]byte, api.MaxPacket+1))
}

// TestQuotedLooksAtFewBytes: sums, totals, and TTLs of a quote say nothing, but some bits do.
func TestQuotedLooksAtFewBytes(t *testing.T) {
	for _, v6 := range families {
		bodies, keys := quotes(v6)
		for proto, whole := range bodies {
			f := familyOf(v6)
			for at := range f.size {
				for bit := range 8 {
					q := bytes.Clone(whole)
					q[at] ^= 1 << bit
					b := errorOf(v6, kindOf(v6), q)
					k, ok := Quoted(b)
					wanted, wantOK := modelQuoted(b)
					if k != wanted || ok != wantOK {
						t.Errorf("bit %d of byte %d: Quoted(%x): %+v, %v", bit, at, b, k, ok)
					}
					same := !v6 && (at > 0 && at < 6 || at == 6 && bit >= 5 || at == 8 || at == 10 || at == 11) || v6 && (at == 0 && bit < 4 || at > 0 && at < 6 || at == 7)
					if same && (k != keys[proto] || !ok) {
						t.Errorf("bit %d of byte %d counts", bit, at)
					}
					if none := !v6 && (at == 0 || at == 6 && bit < 5 || at == 7) || v6 && at == 0 && bit >= 4; none && ok {
						t.Errorf("bit %d of byte %d does not count", bit, at)
					}
				}
			}
		}
	}
}

func TestQuotedOfEachProtocolAndType(t *testing.T) {
	for _, v6 := range families {
		for proto := range 256 {
			for _, kind := range []int{0, 1, 3, 7, 8, 9, 127, 128, 129, 130, 255} {
				q := raw(v6, 50, rawICMP(kind, 5, "1234 5678"))
				q[familyOf(v6).proto] = byte(proto)
				b := errorOf(v6, kindOf(v6), q)
				sport, dport := kind<<8|5, 0
				switch {
				case proto == 6 || proto == 17:
				case proto == 1 && !v6 && modelEcho(v6, kind), proto == 58 && v6 && modelEcho(v6, kind):
					sport, dport = 0x1234, 0x1234
				default:
					wantNotQuoted(t, "a protocol", b)
					continue
				}
				v, _ := Parse(b)
				wantQuoted(t, "a protocol", b, api.Key{Proto: proto, Src: v.Src, Dst: v.Dst, SPort: sport, DPort: dport})
			}
		}
	}
}

func TestQuotedOfTheOtherFamily(t *testing.T) {
	for _, v6 := range families {
		bodies, _ := quotes(!v6)
		for _, q := range bodies {
			q = append(q, make([]byte, 60)...)
			for kind := range 20 {
				wantNotQuoted(t, "the other family", errorOf(v6, kind, q))
			}
		}
	}
	for _, at := range []int{8, 24} {
		q := raw6(six1, six2, 17, rawUDP(nil))
		write6(q[at:], hostA)
		wantNotQuoted(t, "an IPv4 address in IPv6", errorOf(true, 1, q))
		write6(q[at:], addr.Of(5))
		if _, ok := Quoted(errorOf(true, 1, q)); !ok {
			t.Error("an address that is none of IPv4")
		}
	}
	wantNotQuoted(t, "a fragment header", errorOf(true, 1, raw6(six1, six2, 44, behindFrag(17, 0, 5, rawUDP(nil)))))
}

// TestQuotedOfErrorsThatAreNone: a fragment, one of another protocol, one behind a fragment header.
func TestQuotedOfErrorsThatAreNone(t *testing.T) {
	bodies, keys := quotes(false)
	b := errorOf(false, 3, bodies[17])
	for _, proto := range []int{0, 2, 17, 58} {
		p := bytes.Clone(b)
		p[9] = byte(proto)
		wantNotQuoted(t, "another protocol", modelFix(p))
	}
	wantQuoted(t, "an error", b, keys[17])
	b[6] = 0x20
	wantNotQuoted(t, "a fragment", modelFix(b))
	bodies, keys = quotes(true)
	message := append(rawICMP(1, 0, "0000 0000"), bodies[17]...)
	wantQuoted(t, "behind a fragment header", raw6(six1, six2, 44, behindFrag(58, 0, 5, message)), keys[17])
	wantNotQuoted(t, "a fragment", raw6(six1, six2, 44, behindFrag(58, 1, 5, message)))
}

// P4.10

func wantRequote(t *testing.T, what string, b []byte, outer, inner api.Key, ttl int, wanted []byte) {
	t.Helper()
	p, e := Requote(b, outer, inner, ttl)
	if !bytes.Equal(p, wanted) || e != api.OK {
		t.Errorf("%s: Requote(%x):\n%x, %d; want\n%x", what, b, p, e, wanted)
	}
}

func wantNoRequote(t *testing.T, what string, b []byte, outer, inner api.Key, ttl int, wanted api.Errno) {
	t.Helper()
	if p, e := Requote(b, outer, inner, ttl); len(p) != 0 || e != wanted {
		t.Errorf("%s: Requote(%x, %+v, %+v, %d): %x, %d; want %d", what, b, outer, inner, ttl, p, e, wanted)
	}
}

// requoteKeys answers keys for an error of the family that quotes a packet of a protocol.
func requoteKeys(v6 bool, proto int) (outer, inner api.Key) {
	if v6 {
		return api.Key{Proto: 58, Src: six3, Dst: six1, SPort: 1, DPort: 2}, api.Key{Proto: proto, Src: six2, Dst: six3, SPort: 0xfffe, DPort: 0x0102}
	}
	return api.Key{Proto: 1, Src: hostC, Dst: hostA, SPort: 1, DPort: 2}, api.Key{Proto: proto, Src: hostB, Dst: hostC, SPort: 0xfffe, DPort: 0x0102}
}

func TestRequote(t *testing.T) {
	for _, v6 := range families {
		bodies, _ := quotes(v6)
		size := familyOf(v6).size
		for proto, q := range bodies {
			for n := size + 8; n <= len(q)+5; n++ {
				quote := append(bytes.Clone(q), 1, 2, 3, 4, 5)[:n]
				b := errorOf(v6, kindOf(v6), quote)
				outer, inner := requoteKeys(v6, proto)
				wanted := bytes.Clone(b)
				modelHead(wanted, v6, outer, 200)
				inside := wanted[size+8:]
				modelHead(inside, v6, inner, 64)
				if !v6 {
					clear(inside[10:12])
					big.PutUint16(inside[10:], uint16(modelSum(inside[:20])))
				}
				if proto == 6 || proto == 17 {
					copy(inside[size:], unhex("fffe 0102"))
				} else {
					copy(inside[size+4:], unhex("fffe"))
				}
				wantRequote(t, "an error", append(b, 7, 7), outer, inner, 200, modelFix(wanted))
			}
		}
	}
}

// TestRequoteChangesNothingElse in a quote: it need not be right, and stays as wrong as it was.
func TestRequoteChangesNothingElse(t *testing.T) {
	for _, v6 := range families {
		bodies, _ := quotes(v6)
		outer, inner := requoteKeys(v6, 17)
		size := familyOf(v6).size
		q := bodies[17]
		if v6 {
			copy(q, unhex("6fedcba9 ffff 11 00"))
		} else {
			copy(q, unhex("45ffffffabcdc000 00 11 9999"))
		}
		copy(q[size+4:], unhex("eeee dddd"))
		p, e := Requote(errorOf(v6, kindOf(v6), q), outer, inner, 0)
		if e != api.OK {
			t.Fatal(e)
		}
		wanted := bytes.Clone(q)
		modelHead(wanted, v6, inner, 0)
		copy(wanted[size:], unhex("fffe 0102"))
		if !v6 {
			clear(wanted[10:12])
			big.PutUint16(wanted[10:], uint16(modelSum(wanted[:20])))
		}
		wantBytes(t, "the quote", p[size+8:], wanted)
		wantBytes(t, "what is ahead of it", append(bytes.Clone(p[size:size+2]), p[size+4:size+8]...), []byte{byte(kindOf(v6)), 9, 1, 2, 3, 4})
	}
}

func TestRequoteOfWhatQuotesNothing(t *testing.T) {
	outer, inner := api.Key{Proto: -1}, api.Key{Proto: -1, Src: hostA} // their ErrArg comes behind
	wantNoRequote(t, "nothing", nil, outer, inner, -1, api.ErrHeader)
	wantNoRequote(t, "version", []byte{0x50}, outer, inner, -1, api.ErrHeader)
	for _, v6 := range families {
		bodies, _ := quotes(v6)
		for proto, q := range bodies {
			wantNoRequote(t, "no error", q, outer, inner, -1, api.ErrHeader)
			b := errorOf(v6, kindOf(v6), q)
			wantNoRequote(t, "sum", spoil(b), outer, inner, -1, api.ErrHeader)
			wantNoRequote(t, "cut off", b[:len(b)-1], outer, inner, -1, api.ErrHeader)
			wantNoRequote(t, "few bytes", errorOf(v6, kindOf(v6), q[:familyOf(v6).size+7]), outer, inner, -1, api.ErrHeader)
			outer, inner := requoteKeys(v6, proto)
			wantNoRequote(t, "no error", q, outer, inner, 1, api.ErrHeader)
		}
	}
}

func TestRequoteOfWrongKeys(t *testing.T) {
	for _, v6 := range families {
		four := api.Addr{Hi: 1, Lo: hostA.Lo}
		if v6 {
			four = addr.Of4(5)
		}
		bodies, _ := quotes(v6)
		for proto, q := range bodies {
			b := errorOf(v6, kindOf(v6), q)
			for _, spoil := range []func(o, i *api.Key, ttl *int){
				func(o, i *api.Key, ttl *int) { o.Src = four },
				func(o, i *api.Key, ttl *int) { o.Dst = four },
				func(o, i *api.Key, ttl *int) { i.Src = four },
				func(o, i *api.Key, ttl *int) { i.Dst = four },
				func(o, i *api.Key, ttl *int) { o.Proto = 59 - o.Proto },
				func(o, i *api.Key, ttl *int) { o.Proto = 50 },
				func(o, i *api.Key, ttl *int) { o.Proto += 256 },
				func(o, i *api.Key, ttl *int) { o.Proto = -o.Proto },
				func(o, i *api.Key, ttl *int) { i.Proto++ },
				func(o, i *api.Key, ttl *int) { i.Proto += 256 },
				func(o, i *api.Key, ttl *int) { i.Proto = 0 },
				func(o, i *api.Key, ttl *int) { i.Proto = 23 - i.Proto }, // the other one of TCP and UDP
				func(o, i *api.Key, ttl *int) { o.SPort = -1 },
				func(o, i *api.Key, ttl *int) { o.SPort = 65536 },
				func(o, i *api.Key, ttl *int) { o.DPort = -1 },
				func(o, i *api.Key, ttl *int) { o.DPort = math.MaxInt },
				func(o, i *api.Key, ttl *int) { i.SPort = -1 },
				func(o, i *api.Key, ttl *int) { i.SPort = 65536 },
				func(o, i *api.Key, ttl *int) { i.DPort = 65536 },
				func(o, i *api.Key, ttl *int) { i.DPort = math.MinInt },
				func(o, i *api.Key, ttl *int) { *ttl = -1 },
				func(o, i *api.Key, ttl *int) { *ttl = 256 },
				func(o, i *api.Key, ttl *int) { *ttl = math.MaxInt },
				func(o, i *api.Key, ttl *int) { *ttl = math.MinInt },
			} {
				outer, inner := requoteKeys(v6, proto)
				ttl := 9
				spoil(&outer, &inner, &ttl)
				wantNoRequote(t, "a key that may not be", b, outer, inner, ttl, api.ErrArg)
			}
			for _, n := range []int{0, 65535} {
				outer, inner := requoteKeys(v6, proto)
				outer.SPort, outer.DPort, inner.SPort, inner.DPort = n, n, n, n
				p, e := Requote(b, outer, inner, n%256)
				want(t, "the ends of numbers", e, api.OK)
				wantQuoted(t, "the ends of numbers", p, inner)
			}
		}
	}
}

func TestICMPIsWhatTheModelSays(t *testing.T) {
	r := rand.New(rand.NewSource(9))
	count := map[api.Key]int{}
	for range 60000 {
		v6 := r.Intn(2) == 0
		b := somePacket(r, v6, 1+r.Intn(4)/3)
		k, ok := Quoted(b)
		wanted, wantOK := modelQuoted(b)
		if k != wanted || ok != wantOK {
			t.Fatalf("Quoted(%x): %+v, %v; want %+v, %v", b, k, ok, wanted, wantOK)
		}
		count[api.Key{Proto: k.Proto}]++
		own, code := someHost(r, r.Intn(20) == 0 != v6), r.Intn(258)-1
		p, e := Refusal(b, own, code)
		if want, wantE := modelRefusal(b, own, code); !bytes.Equal(p, want) || e != wantE {
			t.Fatalf("Refusal(%x, %x, %d):\n%x, %d; want\n%x, %d", b, own, code, p, e, want, wantE)
		}
		v, _ := Parse(b)
		outer := api.Key{Proto: v.Proto, Src: someHost(r, v.V6), Dst: someHost(r, v.V6), SPort: r.Intn(65536), DPort: r.Intn(65536)}
		inner := api.Key{Proto: pick(r, k.Proto, k.Proto, k.Proto, 6), Src: someHost(r, v.V6), Dst: someHost(r, v.V6), SPort: r.Intn(65536), DPort: r.Intn(65536)}
		p, e = Requote(b, outer, inner, code)
		if want, wantE := modelRequote(b, outer, inner, code); !bytes.Equal(p, want) || e != wantE {
			t.Fatalf("Requote(%x, %+v, %+v, %d):\n%x, %d; want\n%x, %d", b, outer, inner, code, p, e, want, wantE)
		}
	}
	for _, proto := range []int{6, 17, 1, 58} {
		if count[api.Key{Proto: proto}] < 40 {
			t.Errorf("quotes of protocol %d: %d", proto, count[api.Key{Proto: proto}])
		}
	}
}

// P4.11

func TestRefusalQuotesThePacket(t *testing.T) {
	r := rand.New(rand.NewSource(10))
	count := 0
	for range 20000 {
		b := somePacket(r, r.Intn(2) == 0, 0)
		v, x, e := open(b)
		if e != api.OK || v.Proto != 6 && v.Proto != 17 || v.V6 && v.Head == 48 { // a quote's fragment header says that there is no key
			continue
		}
		own := someHost(r, v.V6)
		p, e := Refusal(b, own, r.Intn(256))
		want(t, "Refusal", e, api.OK)
		wantQuoted(t, "what was refused", p, Key(v, x))
		if w, y, e := open(p); e != api.OK || w.Src != own || w.Dst != v.Src || w.TTL != 64 || y.Type != kindOf(v.V6) {
			t.Errorf("Refusal(%x): %+v, %+v, %d", b, w, y, e)
		}
		count++
	}
	if count < 2000 {
		t.Error("only", count)
	}
	// A body of eight bytes, which is no whole header of TCP, is enough.
	for _, v6 := range families {
		b := raw(v6, 6, unhex("1234 5678 00000000"))
		v, _ := Parse(b)
		p, _ := Refusal(b, v.Dst, 1)
		wantQuoted(t, "eight bytes", p, api.Key{Proto: 6, Src: v.Src, Dst: v.Dst, SPort: 0x1234, DPort: 0x5678})
	}
}
