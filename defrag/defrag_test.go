package defrag

import (
	"math"
	"testing"

	"sallyport/api"
	"sallyport/wire"
)

// The chapter's examples.

func TestExamples(t *testing.T) {
	bothFamilies(t, func(t *testing.T, base part, cut func(from, to int, more bool) part) {
		b := New()
		base.data, base.plain = payload(21), true
		same(t, "no fragment", add(t, b, base, 0, api.DropNone), base.bytes())
		counts(t, b, 0, 0)

		add(t, b, cut(0, 16, true), 0, api.DropHeld)
		same(t, "whole", add(t, b, cut(16, 21, false), 0, api.DropNone), whole(base, payload(21)))
		counts(t, b, 0, 0)

		add(t, b, cut(0, 16, true), 0, api.DropHeld)
		add(t, b, cut(0, 16, true), 0, api.DropHeld)
		counts(t, b, 1, 1)
		add(t, b, cut(8, 24, true), 0, api.DropFrag)
		counts(t, b, 0, 0)

		add(t, b, cut(0, 16, true), 0, api.DropHeld)
		add(t, b, cut(16, 21, false), 30, api.DropHeld)
		counts(t, b, 1, 1)

		b = New()
		add(t, b, cut(0, 17, true), 0, api.DropFrag)
		fill(t, b, base6(), 17, 0)
		counts(t, b, 16, 16)
	})
}

// P5.1

func TestTick(t *testing.T) {
	for _, c := range []struct{ began, now, gone int }{
		{0, 0, 0}, {0, 29, 0}, {0, 30, 1}, {0, 31, 1}, {0, 1000, 1},
		{100, 129, 0}, {100, 130, 1}, {100, 99, 0}, {100, 70, 0}, {100, 0, 0}, {100, -1000, 0},
		{-10, 19, 0}, {-10, 20, 1}, {-100, -71, 0}, {-100, -70, 1},
		{math.MinInt, math.MaxInt, 1}, {math.MaxInt, math.MinInt, 0}, {-2, math.MaxInt, 1}, {math.MinInt, 0, 1}, {1, math.MinInt, 0},
		{math.MaxInt - 29, math.MaxInt, 0}, {math.MaxInt - 30, math.MaxInt, 1}, {math.MaxInt, math.MaxInt, 0},
		{math.MinInt, math.MinInt + 29, 0}, {math.MinInt, math.MinInt + 30, 1}, {math.MinInt, math.MinInt, 0},
		{math.MinInt + 1, math.MinInt, 0},
	} {
		b := New()
		add(t, b, other(base4(), 0), c.began, api.DropHeld)
		counts(t, b, 1, 1)
		if n := b.Tick(c.now); n != c.gone {
			t.Errorf("began %d, Tick(%d): %d, not %d", c.began, c.now, n, c.gone)
		}
		counts(t, b, 1-c.gone, 1-c.gone)
		ticks(t, b, c.now, 0)
	}
}

func TestTickOfNone(t *testing.T) {
	b := New()
	counts(t, b, 0, 0)
	ticks(t, b, math.MaxInt, 0)
	counts(t, b, 0, 0)
}

func TestTickOfSeveral(t *testing.T) {
	b := New()
	for i, now := range []int{5, 0, 7, 5, 40, 6} {
		add(t, b, other(base4(), i), now, api.DropHeld)
		ticks(t, b, 0, 0)
		if i == 3 {
			counts(t, b, 4, 4)
		}
	}
	// The one of 40 sent all away that began at 10 or ahead of it; the one of 6 came behind it.
	counts(t, b, 2, 2)
	ticks(t, b, 35, 0)
	ticks(t, b, 36, 1)
	ticks(t, b, 69, 0)
	counts(t, b, 1, 1)
	ticks(t, b, 70, 1)
	counts(t, b, 0, 0)

	fill(t, b, base6(), 10, 0)
	fill(t, b, base4(), 5, 1)
	ticks(t, b, 30, 10)
	counts(t, b, 5, 5)
	ticks(t, b, 31, 5)
}

// A buffer lives from its first fragment on; others, and the same one again, do not make it younger.
func TestLifeIsFromTheFirstOne(t *testing.T) {
	bothFamilies(t, func(t *testing.T, base part, cut func(from, to int, more bool) part) {
		b := New()
		add(t, b, cut(0, 8, true), 10, api.DropHeld)
		add(t, b, cut(16, 24, true), 39, api.DropHeld)
		add(t, b, cut(0, 8, true), 39, api.DropHeld)
		counts(t, b, 1, 2)
		add(t, b, cut(32, 40, true), 5, api.DropHeld)
		counts(t, b, 1, 3)
		ticks(t, b, 39, 0)
		ticks(t, b, 40, 1)
	})
}

func TestLenAndPieces(t *testing.T) {
	b := New()
	cut := maker(base4(), payload(200))
	for i := range 5 {
		add(t, b, cut(16*i, 16*i+8, true), 0, api.DropHeld)
		counts(t, b, 1, i+1)
	}
	cut = maker(base6(), payload(200))
	for i := range 3 {
		add(t, b, cut(16*i, 16*i+8, true), 0, api.DropHeld)
		counts(t, b, 2, i+6)
	}
	add(t, b, cut(0, 16, true), 0, api.DropFrag)
	counts(t, b, 1, 5)
}

// P5.2: first Tick, whatever comes of the packet.

func TestAddTicksFirst(t *testing.T) {
	plain := base4()
	empty, odd := base4(), base4()
	empty.more = true
	odd.more, odd.data = true, payload(9)
	for _, c := range []struct {
		what   string
		p      []byte
		reason int
	}{
		{"no packet", nil, api.DropHeader},
		{"no fragment", plain.bytes(), api.DropNone},
		{"a fragment without bytes", empty.bytes(), api.DropFrag},
		{"an odd fragment", odd.bytes(), api.DropFrag},
	} {
		b := New()
		fill(t, b, base6(), 3, 0)
		addBytes(t, b, c.p, 29, c.reason)
		counts(t, b, 3, 3)
		addBytes(t, b, c.p, 30, c.reason)
		counts(t, b, 0, 0)
	}
}

// The buffer of the packet itself may be what goes; and what is too old makes room ahead of what is full.
func TestAddTicksAheadOfItsBuffer(t *testing.T) {
	bothFamilies(t, func(t *testing.T, base part, cut func(from, to int, more bool) part) {
		b := New()
		add(t, b, cut(0, 8, true), 0, api.DropHeld)
		add(t, b, cut(8, 16, false), 30, api.DropHeld)
		counts(t, b, 1, 1)
		ticks(t, b, 59, 0)
		same(t, "whole", add(t, b, cut(0, 8, true), 59, api.DropNone), whole(base, payload(16)))

		fill(t, b, base, 1, 100)
		for i := 1; i < 16; i++ {
			add(t, b, other(base, i), 50+i, api.DropHeld)
		}
		counts(t, b, 16, 16)
		add(t, b, other(base, 16), 81, api.DropHeld)
		counts(t, b, 16, 16)
		if !lives(t, b, base, 0, 81) || lives(t, b, base, 1, 81) || !lives(t, b, base, 2, 81) {
			t.Error("another one than the one that was too old went")
		}
	})
}

func TestDropHeader(t *testing.T) {
	of := func(base part, change func(p []byte) []byte) []byte {
		base.more, base.data = true, payload(16)
		return change(base.bytes())
	}
	set := func(at int, x byte) func(p []byte) []byte {
		return func(p []byte) []byte { p[at] = x; return p }
	}
	setAndSum := func(at int, x byte) func(p []byte) []byte {
		return func(p []byte) []byte {
			p[at], p[10], p[11] = x, 0, 0
			big.PutUint16(p[10:], sum16(p[:20]))
			return p
		}
	}
	upTo := func(n int) func(p []byte) []byte { return func(p []byte) []byte { return p[:n] } }
	far4, far6 := base4(), base6()
	far4.off, far6.off = 65528, 65528
	for _, p := range [][]byte{
		nil, {}, {0x45}, {0x60}, {0x50, 1, 2, 3},
		of(base4(), upTo(19)), of(base4(), upTo(20)), of(base4(), upTo(35)),
		of(base4(), setAndSum(0, 0x46)), of(base4(), setAndSum(6, 0x80)), of(base4(), setAndSum(9, 58)), of(base4(), setAndSum(3, 19)),
		of(base4(), set(8, 65)), of(base4(), set(10, 0)),
		of(base6(), upTo(39)), of(base6(), upTo(40)), of(base6(), upTo(63)),
		of(base6(), set(40, 44)), of(base6(), set(40, 1)), of(base6(), set(5, 7)),
		of(far4, set(8, 64)), of(far6, set(7, 64)),
		append(of(base4(), upTo(36)), make([]byte, 2048)...),
		append(of(base6(), upTo(64)), make([]byte, 2048)...),
	} {
		if _, e := wire.Parse(p); e == api.OK {
			t.Fatalf("%x is a packet", p)
		}
		b := New()
		fill(t, b, base4(), 16, 0)
		addBytes(t, b, p, 0, api.DropHeader)
		counts(t, b, 16, 16)
	}
}

func TestNoFragment(t *testing.T) {
	bothFamilies(t, func(t *testing.T, base part, cut func(from, to int, more bool) part) {
		b := New()
		add(t, b, cut(0, 8, true), 0, api.DropHeld)
		for _, data := range [][]byte{nil, payload(1), payload(8), payload(1000)} {
			for _, plain := range []bool{false, true} {
				for _, flags := range []byte{0, 0x40} {
					p := base
					p.data, p.plain, p.flags = data, plain, flags
					bare := p.bytes()
					p.behind = payload(7)
					same(t, "no fragment", add(t, b, p, 0, api.DropNone), bare)
				}
			}
		}
		counts(t, b, 1, 1)
	})
}

// 1.

func TestFragmentsThatMayNotBe(t *testing.T) {
	bothFamilies(t, func(t *testing.T, base part, cut func(from, to int, more bool) part) {
		b := New()
		fill(t, b, other(base, 1), 15, 0)
		add(t, b, cut(0, 8, true), 0, api.DropHeld)
		for _, p := range []part{
			cut(0, 0, true), cut(8, 8, true), cut(8, 8, false), cut(16, 16, false),
			cut(8, 9, true), cut(8, 15, true), cut(8, 17, true), cut(0, 7, true), cut(0, 9, true), cut(16, 16+1001, true),
		} {
			add(t, b, p, 0, api.DropFrag)
			counts(t, b, 16, 16)
			// Of a packet that has no buffer: none is begun, and none goes for it.
			p.id += 1000
			add(t, b, p, 0, api.DropFrag)
			counts(t, b, 16, 16)
		}
		same(t, "whole", add(t, b, cut(8, 9, false), 0, api.DropNone), whole(base, payload(9)))
		for i := range 15 {
			if !lives(t, b, other(base, 1), i, 0) {
				t.Errorf("%d went", i)
			}
		}
	})
}

func TestLastOnesMayHaveAnyLength(t *testing.T) {
	bothFamilies(t, func(t *testing.T, base part, cut func(from, to int, more bool) part) {
		for n := 1; n <= 24; n++ {
			b := New()
			add(t, b, cut(8, 8+n, false), 0, api.DropHeld)
			same(t, "whole", add(t, b, cut(0, 8, true), 0, api.DropNone), whole(base, payload(8+n)))
		}
	})
}

// 2.

func TestWhatTellsPackets(t *testing.T) {
	six := base6()
	six.id = base4().id
	list := []part{base4(), six}
	vary := func(change func(p *part)) {
		for _, p := range []part{base4(), six} {
			change(&p)
			list = append(list, p)
		}
	}
	vary(func(p *part) { p.id++ })
	vary(func(p *part) { p.id += 0x100 })
	vary(func(p *part) { p.proto++ })
	vary(func(p *part) { p.src, p.dst = p.dst, p.src })
	vary(func(p *part) { p.src = pickAddr(p.v6, hostC, six3) })
	vary(func(p *part) { p.dst = pickAddr(p.v6, hostC, six3) })
	six.id += 1 << 16
	list = append(list, six)
	six.src.Hi++
	list = append(list, six)
	b := New()
	for i, p := range list {
		p.more, p.data = true, payload(8)
		add(t, b, p, 0, api.DropHeld)
		counts(t, b, i+1, i+1)
	}
	for i, p := range list {
		p.off, p.data = 8, payload(3)
		same(t, "whole", add(t, b, p, 0, api.DropNone), whole(p, append(payload(8), payload(3)...)))
		counts(t, b, len(list)-1-i, len(list)-1-i)
	}
}

func pickAddr(v6 bool, a4, a6 api.Addr) api.Addr {
	if v6 {
		return a6
	}
	return a4
}

// All else in a header tells nothing.
func TestWhatTellsNoPackets(t *testing.T) {
	bothFamilies(t, func(t *testing.T, base part, cut func(from, to int, more bool) part) {
		b := New()
		p := cut(0, 8, true)
		add(t, b, p, 0, api.DropHeld)
		q := cut(8, 16, true)
		q.ttl, q.class, q.flags, q.behind = 1, 0xab, 0x40, payload(5)
		add(t, b, q, 0, api.DropHeld)
		counts(t, b, 1, 2)
	})
}

func TestTheOneThatIsThereForLongestGoes(t *testing.T) {
	bothFamilies(t, func(t *testing.T, base part, cut func(from, to int, more bool) part) {
		b := New()
		// Times of no order: what counts is the order of the calls.
		for i := range 16 {
			add(t, b, other(base, i), (i*7+20)%29, api.DropHeld)
		}
		counts(t, b, 16, 16)
		for i := range 40 {
			add(t, b, other(base, 16+i), (i*11)%29, api.DropHeld)
			counts(t, b, 16, 16)
			if k := (packet{v6: base.v6, src: base.src, dst: base.dst, id: base.id + uint32(i), proto: base.proto}); b.held[k] != nil {
				t.Fatalf("%d is there", i)
			}
		}
		for i := 40; i < 56; i++ {
			if !lives(t, b, base, i, 0) {
				t.Errorf("%d went", i)
			}
		}
		counts(t, b, 0, 0)
	})
}

func TestAFullHouseTakesMoreOfWhatIsThere(t *testing.T) {
	bothFamilies(t, func(t *testing.T, base part, cut func(from, to int, more bool) part) {
		b := New()
		fill(t, b, base, 16, 0)
		for i := range 16 {
			p := other(base, i)
			p.off = 24
			add(t, b, p, 0, api.DropHeld)
			counts(t, b, 16, 17+i)
		}
		// The first one goes with all its fragments.
		add(t, b, other(base, 16), 0, api.DropHeld)
		counts(t, b, 16, 31)
		// One that came out whole, and comes again, is a new one.
		p := other(base, 1)
		p.off, p.data = 8, payload(16)
		add(t, b, p, 0, api.DropHeld)
		p = other(base, 1)
		p.off, p.more = 32, false
		add(t, b, p, 0, api.DropNone)
		counts(t, b, 15, 29)
		add(t, b, other(base, 1), 0, api.DropHeld)
		add(t, b, other(base, 17), 0, api.DropHeld)
		counts(t, b, 16, 29)
		if lives(t, b, base, 2, 0) {
			t.Error("the second one is there")
		}
	})
}

// A fragment that ends too far away begins a buffer, too, for which another one goes; and goes with it.
func TestOneThatGoesAtOnceMakesRoom(t *testing.T) {
	bothFamilies(t, func(t *testing.T, base part, cut func(from, to int, more bool) part) {
		b := New()
		fill(t, b, base, 16, 0)
		p := other(base, 16)
		p.off = 2048
		add(t, b, p, 0, api.DropFrag)
		counts(t, b, 15, 15)
		if !lives(t, b, base, 1, 0) || !lives(t, b, base, 15, 0) || lives(t, b, base, 0, 0) {
			t.Error("another one than the first one went")
		}
	})
}

// 3.

func TestTheVerySameFragment(t *testing.T) {
	bothFamilies(t, func(t *testing.T, base part, cut func(from, to int, more bool) part) {
		b := New()
		first, last := cut(0, 16, true), cut(24, 29, false)
		add(t, b, first, 0, api.DropHeld)
		add(t, b, last, 0, api.DropHeld)
		for range 20 {
			add(t, b, first, 0, api.DropHeld)
			add(t, b, last, 0, api.DropHeld)
			counts(t, b, 1, 2)
		}
		again := first
		again.ttl, again.class, again.flags, again.behind = 7, 0xff, 0x40, payload(3)
		add(t, b, again, 0, api.DropHeld)
		counts(t, b, 1, 2)
		// The header that counts is that of the one that was kept.
		same(t, "whole", add(t, b, cut(16, 24, true), 0, api.DropNone), whole(base, payload(29)))
	})
}

func TestNearlyTheSameFragment(t *testing.T) {
	bothFamilies(t, func(t *testing.T, base part, cut func(from, to int, more bool) part) {
		bytesOf := func(change int) part {
			p := cut(8, 24, true)
			p.data = append([]byte(nil), p.data...)
			p.data[change]++
			return p
		}
		for _, p := range []part{bytesOf(0), bytesOf(7), bytesOf(15), cut(8, 24, false), cut(8, 16, true), cut(8, 32, true), cut(8, 23, false), cut(8, 25, false), cut(16, 32, true), cut(0, 16, true)} {
			b := New()
			add(t, b, cut(8, 24, true), 0, api.DropHeld)
			add(t, b, other(base, 1), 0, api.DropHeld)
			add(t, b, p, 0, api.DropFrag)
			counts(t, b, 1, 1)
			// It is gone with what it had: what comes next is the first one.
			add(t, b, p, 0, api.DropHeld)
			counts(t, b, 2, 2)
		}
	})
}

// 4.

func TestOverlaps(t *testing.T) {
	type span struct {
		from, to int
		more     bool
	}
	for _, c := range []struct {
		there, comes span
		reason       int
	}{
		{span{16, 32, true}, span{0, 16, true}, api.DropHeld},
		{span{16, 32, true}, span{32, 40, true}, api.DropHeld},
		{span{16, 32, true}, span{32, 33, false}, api.DropHeld},
		{span{16, 32, true}, span{0, 8, true}, api.DropHeld},
		{span{16, 32, true}, span{48, 56, true}, api.DropHeld},
		{span{16, 32, true}, span{0, 24, true}, api.DropFrag},
		{span{16, 32, true}, span{24, 40, true}, api.DropFrag},
		{span{16, 32, true}, span{16, 24, true}, api.DropFrag},
		{span{16, 32, true}, span{24, 32, true}, api.DropFrag},
		{span{16, 40, true}, span{24, 32, true}, api.DropFrag},
		{span{16, 32, true}, span{8, 40, true}, api.DropFrag},
		{span{16, 32, true}, span{24, 33, false}, api.DropFrag},
		{span{16, 32, true}, span{8, 40, false}, api.DropFrag},
		{span{16, 17, false}, span{8, 24, true}, api.DropFrag},
		{span{16, 33, false}, span{8, 24, true}, api.DropFrag},
		{span{16, 33, false}, span{0, 16, true}, api.DropNone},
		{span{16, 33, false}, span{0, 8, true}, api.DropHeld},
	} {
		for name, base := range families() {
			cut := maker(base, payload(100))
			b := New()
			add(t, b, cut(c.there.from, c.there.to, c.there.more), 0, api.DropHeld)
			_, n := b.Add(cut(c.comes.from, c.comes.to, c.comes.more).bytes(), 0)
			if n != c.reason {
				t.Errorf("%s: %v behind %v: %d, not %d", name, c.comes, c.there, n, c.reason)
			}
			left := 0
			if c.reason == api.DropHeld {
				left = 1
			}
			counts(t, b, left, 2*left)
		}
	}
}

// What clashes may be any one of those that are there, not just the first or the last.
func TestOverlapOfAnyOne(t *testing.T) {
	bothFamilies(t, func(t *testing.T, base part, cut func(from, to int, more bool) part) {
		for i := range 5 {
			b := New()
			for j := range 5 {
				add(t, b, cut(32*j, 32*j+16, true), 0, api.DropHeld)
			}
			counts(t, b, 1, 5)
			add(t, b, cut(32*i+8, 32*i+32, true), 0, api.DropFrag)
			counts(t, b, 0, 0)
		}
	})
}

func TestEndsThatDoNotFit(t *testing.T) {
	bothFamilies(t, func(t *testing.T, base part, cut func(from, to int, more bool) part) {
		for _, c := range []struct {
			what         string
			there, comes part
			reason       int
		}{
			{"another last one ahead", cut(32, 40, false), cut(16, 24, false), api.DropFrag},
			{"another last one behind", cut(16, 24, false), cut(32, 40, false), api.DropFrag},
			{"another last one behind at once", cut(16, 24, false), cut(24, 32, false), api.DropFrag},
			{"one behind the last one", cut(16, 24, false), cut(32, 40, true), api.DropFrag},
			{"one behind the last one at once", cut(16, 24, false), cut(24, 32, true), api.DropFrag},
			{"one ahead of the last one", cut(32, 40, false), cut(16, 24, true), api.DropHeld},
			{"one ahead of the last one at once", cut(32, 40, false), cut(16, 32, true), api.DropHeld},
			{"a last one ahead of one", cut(32, 40, true), cut(16, 24, false), api.DropFrag},
			{"a last one ahead of one at once", cut(32, 40, true), cut(24, 32, false), api.DropFrag},
			{"a last one behind one", cut(16, 24, true), cut(32, 33, false), api.DropHeld},
			{"a last one behind one at once", cut(16, 24, true), cut(24, 25, false), api.DropHeld},
			{"a last one that ends where one ends", cut(16, 32, true), cut(24, 32, false), api.DropFrag},
			{"one that ends where the last one ends", cut(24, 32, false), cut(16, 32, true), api.DropFrag},
		} {
			t.Run(c.what, func(t *testing.T) {
				b := New()
				add(t, b, other(base, 1), 0, api.DropHeld)
				add(t, b, c.there, 0, api.DropHeld)
				add(t, b, c.comes, 0, c.reason)
				if c.reason == api.DropHeld {
					counts(t, b, 2, 3)
				} else {
					counts(t, b, 1, 1)
				}
			})
		}
		b := New()
		add(t, b, cut(0, 8, true), 0, api.DropHeld)
		add(t, b, cut(48, 56, true), 0, api.DropHeld)
		add(t, b, cut(16, 24, true), 0, api.DropHeld)
		add(t, b, cut(32, 40, false), 0, api.DropFrag)
		counts(t, b, 0, 0)
	})
}

func TestPacketsThatWouldBeTooLong(t *testing.T) {
	bothFamilies(t, func(t *testing.T, base part, cut func(from, to int, more bool) part) {
		most := 2028
		if base.v6 {
			most = 2008
		}
		even := most / 8 * 8
		for _, c := range []struct {
			p      part
			reason int
		}{
			{cut(most-8-most%8, most, false), api.DropHeld}, {cut(even, most+1, false), api.DropFrag}, {cut(even, most+8, false), api.DropFrag},
			{cut(even-8, even, true), api.DropHeld}, {cut(even, even+8, true), api.DropFrag}, {cut(even-8, even+8, true), api.DropFrag},
		} {
			b := New()
			add(t, b, other(base, 1), 0, api.DropHeld)
			add(t, b, c.p, 0, c.reason)
			if c.reason == api.DropHeld {
				counts(t, b, 2, 2)
			} else {
				counts(t, b, 1, 1)
			}
			b = New()
			add(t, b, cut(0, 8, true), 0, api.DropHeld)
			add(t, b, cut(16, 24, true), 0, api.DropHeld)
			add(t, b, c.p, 0, c.reason)
			if c.reason == api.DropHeld {
				counts(t, b, 1, 3)
			} else {
				counts(t, b, 0, 0)
			}
		}
		p := base
		p.off, p.data = 65000, payload(8)
		add(t, New(), p, 0, api.DropFrag)

		b := New()
		add(t, b, cut(1000, most, false), 0, api.DropHeld)
		q := add(t, b, cut(0, 1000, true), 0, api.DropNone)
		same(t, "whole", q, whole(base, payload(most)))
		if len(q) != 2048 {
			t.Errorf("%d bytes", len(q))
		}
	})
}

// 5.

func TestSeventeenFragments(t *testing.T) {
	bothFamilies(t, func(t *testing.T, base part, cut func(from, to int, more bool) part) {
		sixteen := func() *Buffers {
			b := New()
			add(t, b, other(base, 1), 0, api.DropHeld)
			for i := range 16 {
				add(t, b, cut(16*i, 16*i+8, true), 0, api.DropHeld)
				counts(t, b, 2, i+2)
			}
			return b
		}
		for _, c := range []struct {
			what       string
			p          part
			reason     int
			len, whole int
		}{
			{"one more", cut(8, 16, true), api.DropFragCap, 1, 1},
			{"the last one", cut(256, 257, false), api.DropFragCap, 1, 1},
			{"one that is there", cut(16, 24, true), api.DropHeld, 2, 17},
			{"one that may not be", cut(8, 17, true), api.DropFrag, 2, 17},
			{"one that clashes", cut(8, 24, true), api.DropFrag, 1, 1},
			{"one that ends too early", cut(8, 16, false), api.DropFrag, 1, 1},
			{"one too far away", cut(2032, 2040, true), api.DropFrag, 1, 1},
		} {
			t.Run(c.what, func(t *testing.T) {
				b := sixteen()
				add(t, b, c.p, 0, c.reason)
				counts(t, b, c.len, c.whole)
			})
		}
		// The seventeenth one is gone, too.
		b := sixteen()
		add(t, b, cut(8, 16, false), 0, api.DropFrag)
		add(t, b, cut(8, 16, true), 0, api.DropHeld)
		counts(t, b, 2, 2)
	})
}

func TestSixteenFragmentsAreWhole(t *testing.T) {
	bothFamilies(t, func(t *testing.T, base part, cut func(from, to int, more bool) part) {
		b := New()
		for i := range 15 {
			add(t, b, cut(8*i, 8*i+8, true), 0, api.DropHeld)
		}
		same(t, "whole", add(t, b, cut(120, 125, false), 0, api.DropNone), whole(base, payload(125)))
		counts(t, b, 0, 0)
	})
}

// 6.

func TestNotWholeYet(t *testing.T) {
	bothFamilies(t, func(t *testing.T, base part, cut func(from, to int, more bool) part) {
		all := []part{cut(0, 8, true), cut(8, 24, true), cut(24, 32, true), cut(32, 37, false)}
		for missing := range all {
			b := New()
			for i, p := range all {
				if i != missing {
					add(t, b, p, 0, api.DropHeld)
				}
			}
			counts(t, b, 1, 3)
			same(t, "whole", add(t, b, all[missing], 0, api.DropNone), whole(base, payload(37)))
			counts(t, b, 0, 0)
		}
	})
}
