package defrag

import (
	"bytes"
	"math"
	mathbig "math/big"
	"math/rand"
	"testing"

	"sallyport/api"
)

// What the chapter says, said once more, sentence by sentence: a list of buffers in the order in which they came, and bytes that are looked for one by one.

type modelBuffer struct {
	of    part // its family, Src, Dst, ID and Proto
	began int
	l     []part
}

type model struct{ l []*modelBuffer }

func (p part) end() int { return p.off + len(p.data) }

// has tells whether the fragment has the packet's byte at that place.
func (p part) has(at int) bool { return p.off <= at && at < p.end() }

func samePacket(a, b part) bool {
	return a.v6 == b.v6 && a.src == b.src && a.dst == b.dst && a.id == b.id && a.proto == b.proto
}

func (m *model) tick(now int) int {
	var left []*modelBuffer
	for _, u := range m.l {
		since := new(mathbig.Int).Sub(mathbig.NewInt(int64(now)), mathbig.NewInt(int64(u.began)))
		if since.Cmp(mathbig.NewInt(30)) < 0 {
			left = append(left, u)
		}
	}
	gone := len(m.l) - len(left)
	m.l = left
	return gone
}

func (m *model) drop(u *modelBuffer) {
	for i, x := range m.l {
		if x == u {
			m.l = append(append([]*modelBuffer(nil), m.l[:i]...), m.l[i+1:]...)
			return
		}
	}
}

func (m *model) pieces() int {
	n := 0
	for _, u := range m.l {
		n += len(u.l)
	}
	return n
}

func (m *model) add(p part, now int) ([]byte, int) {
	m.tick(now)
	if !p.more && p.off == 0 {
		p.behind = nil
		return p.bytes(), 0
	}
	if len(p.data) == 0 || p.more && len(p.data)%8 != 0 {
		return nil, 5
	}
	var u *modelBuffer
	for _, x := range m.l {
		if samePacket(x.of, p) {
			u = x
		}
	}
	if u == nil {
		if len(m.l) == 16 {
			m.l = m.l[1:]
		}
		u = &modelBuffer{of: p, began: now}
		m.l = append(m.l, u)
	}
	for _, x := range u.l {
		if x.off == p.off && x.more == p.more && bytes.Equal(x.data, p.data) {
			return nil, 4
		}
	}
	if u.spoilt(p) {
		m.drop(u)
		return nil, 5
	}
	if len(u.l) == 16 {
		m.drop(u)
		return nil, 6
	}
	u.l = append(u.l, p)
	q := u.whole()
	if q == nil {
		return nil, 4
	}
	m.drop(u)
	return q, 0
}

func (u *modelBuffer) spoilt(p part) bool {
	for at := p.off; at < p.end(); at++ {
		for _, x := range u.l {
			if x.has(at) {
				return true
			}
		}
	}
	for _, x := range u.l {
		if !x.more && !p.more && x.end() != p.end() {
			return true
		}
		if !x.more && p.more && !(p.end() < x.end()) {
			return true
		}
		if !p.more && x.end() > p.end() {
			return true
		}
	}
	if p.v6 {
		return 40+p.end() > 2048
	}
	return 20+p.end() > 2048
}

func (u *modelBuffer) whole() []byte {
	end := 0
	for _, x := range u.l {
		if !x.more {
			end = x.end()
		}
	}
	if end == 0 {
		return nil
	}
	var first part
	data := make([]byte, end)
	for at := range data {
		there := false
		for _, x := range u.l {
			if x.has(at) {
				there = true
				data[at] = x.data[at-x.off]
			}
			if x.off == 0 {
				first = x
			}
		}
		if !there {
			return nil
		}
	}
	return whole(first, data)
}

// somePart answers fragments of few packets, so that many meet; at few places, so that they clash, and fit.
func somePart(r *rand.Rand, packets int) part {
	n := r.Intn(packets)
	p := base4()
	if n&1 == 1 {
		p = base6()
		p.src, p.dst = six1, six2
	}
	p.id = uint32(n >> 1 & 3)
	if n>>3&1 == 1 {
		p.proto = 17
	}
	if n>>4&1 == 1 {
		p.src, p.dst = p.dst, p.src
	}
	units := r.Intn(4)
	p.off = 8 * r.Intn(5)
	if r.Intn(40) == 0 {
		p.off = 1960 + 8*r.Intn(12)
	}
	p.more = r.Intn(3) > 0
	size := 8 * units
	if !p.more && r.Intn(2) == 0 || r.Intn(40) == 0 {
		size += r.Intn(8)
	}
	p.data = payload(p.off + size)[p.off:]
	if size > 0 && r.Intn(20) == 0 {
		p.data[r.Intn(size)]++
	}
	p.ttl, p.class, p.behind = byte(r.Intn(256)), byte(r.Intn(256)), payload(r.Intn(3))
	p.flags = byte(r.Intn(2)) << 6
	return p
}

// someTime answers times that mostly go on, but go back, and to the ends, too.
func someTime(r *rand.Rand, now int) int {
	switch r.Intn(200) {
	case 0:
		return []int{math.MaxInt, math.MaxInt - 10, math.MinInt, math.MinInt + 10, 0}[r.Intn(5)]
	case 1, 2:
		return now - r.Intn(40)
	case 3, 4:
		return now + r.Intn(40)
	}
	return now + r.Intn(2)
}

func TestAgainstTheModel(t *testing.T) {
	var reasons [21]int
	for seed := range 300 {
		r := rand.New(rand.NewSource(int64(seed)))
		packets := []int{2, 8, 32}[seed%3]
		b, twin, m := New(), New(), &model{}
		now := r.Intn(1000)
		for step := range 600 {
			now = someTime(r, now)
			if r.Intn(50) == 0 {
				want := m.tick(now)
				ticks(t, b, now, want)
				ticks(t, twin, now, want)
				continue
			}
			p := somePart(r, packets)
			x := p.bytes()
			want, reason := m.add(p, now)
			q, n := b.Add(x, now)
			if n != reason || !bytes.Equal(q, want) {
				t.Fatalf("seed %d, step %d: Add(%x, %d): %x, %d, not %x, %d", seed, step, x, now, q, n, want, reason)
			}
			q, n = twin.Add(x, now)
			if n != reason || !bytes.Equal(q, want) {
				t.Fatalf("seed %d, step %d: another one tells otherwise", seed, step)
			}
			reasons[n]++
			counts(t, b, len(m.l), m.pieces())
			if b.Len() > api.MaxBuffers {
				t.Fatalf("%d buffers", b.Len())
			}
		}
	}
	for _, n := range []int{api.DropNone, api.DropHeld, api.DropFrag} {
		if reasons[n] < 1000 {
			t.Errorf("reason %d: just %d times", n, reasons[n])
		}
	}
}

// Small fragments of one packet, many: the cap of fragments is met.
func TestManyPiecesAgainstTheModel(t *testing.T) {
	var reasons [21]int
	for seed := range 400 {
		r := rand.New(rand.NewSource(int64(seed)))
		base := base4()
		if seed%2 == 1 {
			base = base6()
		}
		data := payload(8 * 20)
		cut := maker(base, data)
		b, m := New(), &model{}
		units := 14 + seed%7
		for range 100 {
			at := r.Intn(units)
			p := cut(8*at, 8*at+8, at < units-1)
			want, reason := m.add(p, 0)
			q, n := b.Add(p.bytes(), 0)
			if n != reason || !bytes.Equal(q, want) {
				t.Fatalf("seed %d: %x, %d, not %x, %d", seed, q, n, want, reason)
			}
			reasons[n]++
			counts(t, b, len(m.l), m.pieces())
			if b.Pieces() > api.MaxPieces {
				t.Fatalf("%d fragments", b.Pieces())
			}
		}
	}
	for _, n := range []int{api.DropNone, api.DropHeld, api.DropFragCap} {
		if reasons[n] < 100 {
			t.Errorf("reason %d: just %d times", n, reasons[n])
		}
	}
}

// R1: every call ends, and none panics.
func TestNothingPanics(t *testing.T) {
	r := rand.New(rand.NewSource(3))
	b := New()
	for range 60000 {
		x := somePart(r, 32).bytes()
		for range r.Intn(3) {
			x[r.Intn(len(x))] = byte(r.Intn(256))
		}
		if r.Intn(4) == 0 {
			x = x[:r.Intn(len(x)+1)]
		}
		if len(x) >= 20 && x[0]>>4 == 4 && r.Intn(4) > 0 {
			x[10], x[11] = 0, 0
			big.PutUint16(x[10:], sum16(x[:20]))
		}
		q, n := b.Add(x, int(r.Uint64())>>r.Intn(64))
		if (n == api.DropNone) != (len(q) > 0) {
			t.Fatalf("%x: %x, %d", x, q, n)
		}
		if b.Len() > api.MaxBuffers || b.Pieces() > api.MaxBuffers*api.MaxPieces {
			t.Fatalf("%d buffers, %d fragments", b.Len(), b.Pieces())
		}
	}
}
