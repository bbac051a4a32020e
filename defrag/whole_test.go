package defrag

import (
	"bytes"
	"math/rand"
	"testing"

	"sallyport/api"
	"sallyport/wire"
)

// P5.3

func TestWholeByHand(t *testing.T) {
	b := New()
	last := []byte{
		0x45, 0x00, 0x00, 0x17, 0xab, 0xcd, 0x00, 0x01, 0x05, 0xc8, 0, 0, 10, 0, 0, 1, 10, 0, 0, 2,
		0x21, 0x22, 0x23,
	}
	first := []byte{
		0x45, 0x1c, 0x00, 0x1c, 0xab, 0xcd, 0x60, 0x00, 0x3f, 0xc8, 0, 0, 10, 0, 0, 1, 10, 0, 0, 2,
		0x11, 0x12, 0x13, 0x14, 0x15, 0x16, 0x17, 0x18, 0x99,
	}
	want := []byte{
		0x45, 0x1c, 0x00, 0x1f, 0xab, 0xcd, 0x00, 0x00, 0x3f, 0xc8, 0, 0, 10, 0, 0, 1, 10, 0, 0, 2,
		0x11, 0x12, 0x13, 0x14, 0x15, 0x16, 0x17, 0x18, 0x21, 0x22, 0x23,
	}
	for _, p := range [][]byte{last, first, want} {
		big.PutUint16(p[10:], sum16(p[:20]))
	}
	addBytes(t, b, last, 0, api.DropHeld)
	same(t, "IPv4", addBytes(t, b, first, 0, api.DropNone), want)

	addrs := make([]byte, 32)
	for i := range addrs {
		addrs[i] = byte(i + 0x20)
	}
	join := func(l ...[]byte) []byte { return bytes.Join(l, nil) }
	last = join([]byte{0x60, 0, 0, 0, 0, 11, 44, 5}, addrs, []byte{17, 0, 0, 8, 1, 2, 3, 4, 0x21, 0x22, 0x23})
	first = join([]byte{0x6a, 0xbc, 0xde, 0xf1, 0, 16, 44, 0x3f}, addrs, []byte{17, 0xff, 0, 7, 1, 2, 3, 4, 0x11, 0x12, 0x13, 0x14, 0x15, 0x16, 0x17, 0x18, 0x99})
	want = join([]byte{0x6a, 0xbc, 0xde, 0xf1, 0, 11, 17, 0x3f}, addrs, []byte{0x11, 0x12, 0x13, 0x14, 0x15, 0x16, 0x17, 0x18, 0x21, 0x22, 0x23})
	addBytes(t, b, last, 0, api.DropHeld)
	same(t, "IPv6", addBytes(t, b, first, 0, api.DropNone), want)
}

// The header is that of the fragment with Off 0, wherever in their order it comes.
func TestWhoseHeader(t *testing.T) {
	bothFamilies(t, func(t *testing.T, base part, cut func(from, to int, more bool) part) {
		all := []part{cut(0, 8, true), cut(8, 16, true), cut(16, 19, false)}
		for i := range all {
			all[i].ttl, all[i].class, all[i].flags, all[i].behind = byte(50+i), byte(0xa0+i), byte(i%2*0x40), payload(i)
		}
		for _, order := range [][]int{{0, 1, 2}, {0, 2, 1}, {1, 0, 2}, {1, 2, 0}, {2, 0, 1}, {2, 1, 0}} {
			b := New()
			add(t, b, all[order[0]], 0, api.DropHeld)
			add(t, b, all[order[1]], 0, api.DropHeld)
			q := add(t, b, all[order[2]], 0, api.DropNone)
			same(t, "whole", q, whole(all[0], payload(19)))
			counts(t, b, 0, 0)
		}
	})
}

// What comes out is a packet that layer 4 takes, of any protocol that may be; one that was cut is what it was.
func TestWholeIsWhatWasCut(t *testing.T) {
	for _, c := range []struct {
		src, dst api.Addr
		proto    int
		body     []byte
	}{
		{hostA, hostB, api.ProtoUDP, wire.UDP(1, 2, payload(300))},
		{six1, six2, api.ProtoUDP, wire.UDP(1, 2, payload(300))},
		{hostA, hostC, api.ProtoTCP, wire.TCP(1, 2, 3, 4, wire.Ack, 5, payload(300))},
		{six1, six3, api.ProtoTCP, wire.TCP(1, 2, 3, 4, wire.Ack, 5, payload(300))},
		{hostA, hostB, api.ProtoICMP, append([]byte{8, 0, 0, 0, 0, 7, 0, 1}, payload(300)...)},
		{six1, six2, api.ProtoICMP6, append([]byte{128, 0, 0, 0, 0, 7, 0, 1}, payload(300)...)},
	} {
		p, e := wire.Packet(c.src, c.dst, c.proto, 64, c.body)
		if e != api.OK {
			t.Fatal(e)
		}
		v, _ := wire.Parse(p)
		body := p[v.Head:]
		base := part{v6: v.V6, src: c.src, dst: c.dst, id: 9, proto: c.proto, ttl: 64}
		cut := maker(base, body)
		b := New()
		add(t, b, cut(0, 160, true), 0, api.DropHeld)
		q := add(t, b, cut(160, len(body), false), 0, api.DropNone)
		w, e := wire.Parse(q)
		if e != api.OK || w.Frag || w.Total != len(q) || w.Proto != c.proto || w.Src != c.src || w.Dst != c.dst {
			t.Fatalf("%x: %+v, %d", q, w, e)
		}
		if _, e := wire.Transport(q, w); e != api.OK {
			t.Fatalf("%x: %d", q, e)
		}
		same(t, "body", q[w.Head:], body)
	}
}

// P5.4

// cuts answers a packet's fragments, at most most of them, in any order.
func cuts(r *rand.Rand, base part, data []byte, most int) []part {
	cut := maker(base, data)
	units := (len(data) - 1) / 8
	n := 1 + r.Intn(min(units, most-1))
	ends := map[int]bool{}
	for len(ends) < n {
		ends[8*(1+r.Intn(units))] = true
	}
	var l []part
	from := 0
	for to := 8; to < len(data); to += 8 {
		if ends[to] {
			l = append(l, cut(from, to, true))
			from = to
		}
	}
	l = append(l, cut(from, len(data), false))
	r.Shuffle(len(l), func(i, j int) { l[i], l[j] = l[j], l[i] })
	return l
}

func TestAnyOrderComesOutWhole(t *testing.T) {
	r := rand.New(rand.NewSource(1))
	for i := range 4000 {
		base, most := base4(), 2028
		if i%2 == 1 {
			base, most = base6(), 2008
		}
		b := New()
		start := r.Intn(100) - 50
		// Others that are there already, to make it full; fewer than MaxBuffers are begun meanwhile.
		fill(t, b, base6(), 16, start-r.Intn(30))
		base.id = 0xbeef
		data := payload(9 + r.Intn(pickInt(i%7 == 0, most-8, 120)))
		l := cuts(r, base, data, 16)
		others := 15
		for j, p := range l {
			now := start + r.Intn(30)
			if j == 0 {
				now = start
			}
			if j < len(l)-1 {
				add(t, b, p, now, api.DropHeld)
			} else {
				same(t, "whole", add(t, b, p, now, api.DropNone), whole(base, data))
				break
			}
			for others > 0 && r.Intn(3) > 0 {
				add(t, b, other(base4(), 20+others), start+r.Intn(30), api.DropHeld)
				others--
			}
			if r.Intn(3) == 0 {
				add(t, b, l[r.Intn(j+1)], start+r.Intn(30), api.DropHeld)
			}
			if b.Len() > api.MaxBuffers {
				t.Fatalf("%d buffers", b.Len())
			}
		}
	}
}

func pickInt(ok bool, a, b int) int {
	if ok {
		return a
	}
	return b
}

// The edges of that promise: the last tick, and one too many; the last other one, and one too many.
func TestEdgesOfComingOutWhole(t *testing.T) {
	bothFamilies(t, func(t *testing.T, base part, cut func(from, to int, more bool) part) {
		for _, c := range []struct{ now, others, reason int }{
			{29, 0, api.DropNone}, {30, 0, api.DropHeld}, {0, 15, api.DropNone}, {0, 16, api.DropHeld}, {29, 15, api.DropNone},
		} {
			b := New()
			add(t, b, cut(8, 13, false), 0, api.DropHeld)
			fill(t, b, other(base, 1), c.others, 0)
			add(t, b, cut(0, 8, true), c.now, c.reason)
		}
	})
}

// R3: what is handed in is neither changed nor kept; an answer is new memory.

// within answers b with room behind it that has other bytes.
func within(b []byte) []byte {
	return append(bytes.Clone(b), bytes.Repeat([]byte{0xe5}, 64)...)[:len(b)]
}

// room answers b's bytes, and those of the room behind it.
func room(b []byte) []byte { return b[:cap(b)] }

func TestArgumentsStayAndAreNotKept(t *testing.T) {
	bothFamilies(t, func(t *testing.T, base part, cut func(from, to int, more bool) part) {
		b := New()
		var handed [][]byte
		give := func(p part, reason int) []byte {
			x := within(p.bytes())
			before := bytes.Clone(room(x))
			q := addBytes(t, b, x, 0, reason)
			same(t, "an argument", room(x), before)
			handed = append(handed, x)
			for i := range room(x) {
				room(x)[i] ^= 0xff
			}
			return q
		}
		give(cut(0, 8, true), api.DropHeld)
		give(cut(0, 8, true), api.DropHeld)
		give(cut(16, 24, false), api.DropHeld)
		q := give(cut(8, 16, true), api.DropNone)
		plain := base
		plain.data = payload(40)
		q2 := give(plain, api.DropNone)
		same(t, "whole", q, whole(base, payload(24)))
		same(t, "no fragment", q2, plain.bytes())

		var before [][]byte
		for _, x := range handed {
			before = append(before, bytes.Clone(room(x)))
		}
		for _, x := range [][]byte{q, q2} {
			for i := range room(x) {
				room(x)[i]++
			}
		}
		for i, x := range handed {
			same(t, "an argument behind the call", room(x), before[i])
		}
	})
}

// Two objects have nothing in common.
func TestTwoObjects(t *testing.T) {
	cut := maker(base4(), payload(24))
	a, b := New(), New()
	add(t, a, cut(0, 8, true), 0, api.DropHeld)
	counts(t, b, 0, 0)
	add(t, b, cut(8, 11, false), 0, api.DropHeld)
	ticks(t, b, 30, 1)
	counts(t, a, 1, 1)
	same(t, "whole", add(t, a, cut(8, 11, false), 0, api.DropNone), whole(base4(), payload(11)))
}
