package window

import (
	"math"
	"math/rand"
	"testing"

	"sallyport/wire"
)

// What the chapter says, said once more, step by step, with whole numbers that are brought below 2^32 where they are held against each other.

const round = 1 << 32

// mod answers the number from 0 to 2^32 - 1 that n stands for.
func mod(n int64) int64 { return (n%round + round) % round }

func modelLess(a, b int64) bool {
	d := mod(b - a)
	return 1 <= d && d <= 1<<31-1
}

// modelSide is a Side of such numbers.
type modelSide struct {
	seen      bool
	end, most int64
	fin       bool
}

type modelConn struct {
	state int
	side  [2]modelSide // of A, of B
}

// modelSeg is what a segment tells.
type modelSeg struct {
	fin, syn, rst, ack bool
	seq, acks, end     int64
	window, data       int64
}

func toModel(c Conn) modelConn {
	m := modelConn{state: c.State}
	for i, x := range []Side{c.A, c.B} {
		m.side[i] = modelSide{x.Seen, int64(x.End), int64(x.Most), x.Fin}
	}
	return m
}

func fromModel(m modelConn) Conn {
	side := func(x modelSide) Side {
		return Side{Seen: x.seen, End: uint32(mod(x.end)), Most: uint32(mod(x.most)), Fin: x.fin}
	}
	return Conn{State: m.state, A: side(m.side[0]), B: side(m.side[1])}
}

func modelRead(t wire.Trans) modelSeg {
	bit := func(n int) bool { return t.Flags>>n&1 == 1 }
	m := modelSeg{fin: bit(0), syn: bit(1), rst: bit(2), ack: bit(4), seq: int64(t.Seq), acks: int64(t.Ack), window: mod(int64(t.Window)), data: int64(t.Data)}
	m.end = m.seq + mod(m.data)
	if m.syn {
		m.end++
	}
	if m.fin {
		m.end++
	}
	m.end = mod(m.end)
	return m
}

func modelOpen(t wire.Trans) (Conn, bool) {
	m := modelRead(t)
	if !m.syn || m.fin || m.rst || m.ack || m.data != 0 {
		return Conn{}, false
	}
	return fromModel(modelConn{1, [2]modelSide{{true, m.end, m.end + m.window, false}}}), true
}

// steps tells which of the chapter's steps is the first one that says so, whether the segment belongs to it, and what is behind it.
func steps(c modelConn, x int, m modelSeg) (int, modelConn, bool) {
	y := 1 - x
	told := func() {
		if c.side[y].seen && m.ack && modelLess(c.side[y].most, m.acks+m.window) {
			c.side[y].most = mod(m.acks + m.window)
		}
	}
	if c.state < 1 || c.state > 4 {
		return 1, c, false
	}
	if c.side[y].seen && m.ack && modelLess(c.side[y].end, m.acks) || !m.ack && !m.syn && !m.rst {
		return 2, c, false
	}
	if m.syn {
		if m.fin || m.rst || m.data != 0 {
			return 3, c, false
		}
		if c.side[x].seen {
			return 3, c, m.end == c.side[x].end && (c.state == 1 || c.state == 2)
		}
		if x != 1 || c.state != 1 || !m.ack || m.acks != c.side[0].end {
			return 3, c, false
		}
		c.state, c.side[1] = 2, modelSide{seen: true, end: m.end, most: m.end + m.window}
		told()
		return 3, c, true
	}
	if !c.side[x].seen {
		if m.rst && m.ack && m.acks == c.side[y].end {
			c.state = 5
			return 4, c, true
		}
		return 4, c, false
	}
	if modelLess(c.side[x].most, m.end) || modelLess(m.seq, c.side[x].end-65536) {
		return 4, c, false
	}
	if modelLess(c.side[x].end, m.end) {
		c.side[x].end = m.end
	}
	c.side[x].fin = c.side[x].fin || m.fin
	told()
	if c.state == 2 && m.ack && x == 0 {
		c.state = 3
	}
	if c.side[0].fin || c.side[1].fin {
		c.state = 4
	}
	if m.rst {
		c.state = 5
	}
	return 5, c, true
}

// modelNext tells what Next answers, and by which step.
func modelNext(c Conn, back bool, t wire.Trans) (Conn, bool, int) {
	x := 0
	if back {
		x = 1
	}
	step, m, ok := steps(toModel(c), x, modelRead(t))
	if !ok {
		return c, false, step
	}
	return fromModel(m), true, step
}

// tally counts by which step segments belong, and by which not, and the states that are reached.
type tally struct {
	yes, no [6]int
	to      [6]int
}

func (n *tally) wantEach(t *testing.T, least int) {
	t.Helper()
	for i := 1; i <= 5; i++ {
		if i >= 3 && n.yes[i] < least || i < 5 && n.no[i] < least || n.to[i] < least {
			t.Errorf("%+v: too few of step or state %d", *n, i)
		}
	}
}

// wantStep checks one Next, and answers what is behind it.
func wantStep(t *testing.T, c Conn, back bool, g wire.Trans, n *tally) Conn {
	t.Helper()
	got, ok := Next(c, back, g)
	want, wantOK, step := modelNext(c, back, g)
	if got != want || ok != wantOK {
		t.Fatalf("Next(%v, %v, %v): %v, %v; want %v, %v by step %d", c, back, g, got, ok, want, wantOK, step)
	}
	if !ok {
		n.no[step]++
		return got
	}
	n.yes[step]++
	n.to[got.State]++
	return got
}

// near answers a sequence number that is mostly at the edges of what c tells.
func near(r *rand.Rand, c Conn) uint32 {
	l := []uint32{c.A.End, c.B.End, c.A.Most, c.B.Most, c.A.End - 65536, c.B.End - 65536, 0, 1 << 31, c.A.End + 1<<31, c.B.Most + 1<<31}
	switch r.Intn(8) {
	case 0:
		return r.Uint32()
	case 1:
		return l[r.Intn(len(l))] + uint32(r.Intn(3000)) - 1500
	}
	return l[r.Intn(len(l))] + uint32(r.Intn(5)) - 2
}

// someInt answers windows and numbers of bytes: mostly none or few, but of all sizes, and at the edges.
func someInt(r *rand.Rand) int {
	switch r.Intn(16) {
	case 0:
		return int(r.Uint64()) >> r.Intn(64)
	case 1:
		return []int{math.MinInt, -1, 65535, 1<<31 - 1, 1 << 31, 1<<32 - 1, 1 << 32, math.MaxInt}[r.Intn(8)]
	case 2, 3:
		return r.Intn(65536)
	case 4, 5:
		return r.Intn(5)
	}
	return 0
}

func someFlags(r *rand.Rand) int {
	switch r.Intn(10) {
	case 0:
		return int(r.Uint64())
	case 1:
		return r.Intn(32)
	}
	return []int{wire.Syn, wire.Syn | wire.Ack, wire.Ack, wire.Ack, wire.Ack | wire.Fin, wire.Rst, wire.Rst | wire.Ack}[r.Intn(7)]
}

func someSegment(r *rand.Rand, c Conn) wire.Trans {
	return wire.Trans{SPort: r.Intn(3), DPort: r.Intn(3), Seq: near(r, c), Ack: near(r, c), Flags: someFlags(r), Window: someInt(r), Data: someInt(r), Head: r.Intn(3)}
}

// someConn answers connections as none may come to be, too.
func someConn(r *rand.Rand) Conn {
	side := func() Side {
		x := Side{Seen: r.Intn(4) > 0, End: near(r, Conn{}), Fin: r.Intn(4) == 0}
		if x.Most = x.End + uint32(r.Intn(2000)); r.Intn(8) == 0 {
			x.Most = near(r, Conn{})
		}
		return x
	}
	c := Conn{State: 1 + r.Intn(5), A: side(), B: side()}
	if r.Intn(32) == 0 {
		c.State = someInt(r)
	}
	return c
}

func TestAgainstTheModel(t *testing.T) {
	var n tally
	r := rand.New(rand.NewSource(1))
	for range 1000000 {
		c := someConn(r)
		wantStep(t, c, r.Intn(2) == 0, someSegment(r, c), &n)
	}
	n.wantEach(t, 500)
}

func TestOpenAgainstTheModel(t *testing.T) {
	r, opened := rand.New(rand.NewSource(1)), 0
	for range 100000 {
		g := someSegment(r, Conn{})
		got, ok := Open(g)
		want, wantOK := modelOpen(g)
		if got != want || ok != wantOK {
			t.Fatalf("Open(%v): %v, %v; want %v, %v", g, got, ok, want, wantOK)
		}
		if ok {
			opened++
		}
	}
	if opened < 1000 {
		t.Errorf("just %d are opened", opened)
	}
}

func TestLessAgainstTheModel(t *testing.T) {
	r := rand.New(rand.NewSource(1))
	for range 100000 {
		x := r.Uint32()
		y := near(r, Conn{A: side(x, x), B: side(x, x)})
		if got := Less(x, y); got != modelLess(int64(x), int64(y)) {
			t.Fatalf("Less(%d, %d): %v", x, y, got)
		}
	}
}

// talk answers a segment that goes on with c, as two that speak with each other send it; now and then another one.
func talk(r *rand.Rand, c Conn, back bool) wire.Trans {
	x, y := c.A, c.B
	if back {
		x, y = y, x
	}
	switch {
	case r.Intn(12) == 0:
		return someSegment(r, c)
	case back && !x.Seen && r.Intn(8) == 0:
		return wire.Trans{Ack: y.End, Flags: wire.Rst | wire.Ack}
	case back && !x.Seen:
		return wire.Trans{Seq: r.Uint32(), Ack: y.End, Flags: wire.Syn | wire.Ack, Window: r.Intn(65536)}
	case r.Intn(40) == 0:
		return wire.Trans{Seq: x.End, Ack: y.End, Flags: wire.Ack | []int{wire.Fin, wire.Fin, wire.Rst}[r.Intn(3)], Window: r.Intn(65536)}
	}
	// Data as far as they may go, and now and then one byte more.
	room := int(x.Most - x.End)
	data := []int{0, 1, r.Intn(1500), room, room + 1}[r.Intn(5)]
	return wire.Trans{Seq: x.End - uint32(r.Intn(3)), Ack: y.End - uint32(r.Intn(3)), Flags: wire.Ack, Window: r.Intn(65536), Data: data}
}

func TestTalksAgainstTheModel(t *testing.T) {
	var n tally
	for seed := range 4000 {
		r := rand.New(rand.NewSource(int64(seed)))
		c, ok := Open(wire.Trans{Seq: r.Uint32(), Flags: wire.Syn, Window: r.Intn(65536)})
		if !ok {
			t.Fatal("it is not opened")
		}
		for range 60 {
			back := r.Intn(2) == 0
			c = wantStep(t, c, back, talk(r, c, back), &n)
		}
	}
	n.wantEach(t, 100)
}

// words are segments of few kinds: each flag that may be with each other one, at numbers that are just right, and just not.
func words() []wire.Trans {
	var l []wire.Trans
	for _, flags := range []int{0, s, s | a, a, f, f | a, r, r | a} {
		for _, at := range []uint32{0, 1, 2} {
			for _, ack := range []uint32{0, 1, 2} {
				if flags&a != 0 || ack == 0 {
					l = append(l, wire.Trans{Flags: flags, Seq: at, Ack: ack, Window: 2})
				}
			}
		}
	}
	return append(l, wire.Trans{Flags: a, Seq: 1, Ack: 1, Window: 3, Data: 1}, wire.Trans{Flags: a, Seq: 1, Ack: 1, Window: 3, Data: 3})
}

// saw is what of the handshake was there, in its order.
type saw struct{ synOfB, ackOfA bool }

// TestAllShortRows goes through all rows of up to four segments of either side, behind an Open; it also looks whether Established is reached in the one way that there is.
func TestAllShortRows(t *testing.T) {
	var n tally
	l := words()
	var walk func(c Conn, left int, w saw)
	walk = func(c Conn, left int, w saw) {
		if c.State == Established && !w.ackOfA {
			t.Fatalf("%v without a handshake", c)
		}
		if left == 0 {
			return
		}
		for _, g := range l {
			for _, back := range []bool{false, true} {
				got := wantStep(t, c, back, g, &n)
				next := w
				if back && g.Flags&(s|a) == s|a && g.Ack == c.A.End && c.State == SynSent {
					next.synOfB = true
				}
				if !back && g.Flags&a != 0 && w.synOfB {
					next.ackOfA = true
				}
				if got != c { // what changes nothing needs no row behind it
					walk(got, left-1, next)
				}
			}
		}
	}
	c, _ := Open(wire.Trans{Flags: s, Window: 2})
	walk(c, 4, saw{})
	n.wantEach(t, 50)
}

// P15.5

func TestWhatFollows(t *testing.T) {
	rnd := rand.New(rand.NewSource(2))
	for range 200000 {
		c := someConn(rnd)
		g, back := someSegment(rnd, c), rnd.Intn(2) == 0
		got, ok := Next(c, back, g)
		if !ok && got != c {
			t.Fatalf("Next(%v, %v, %v): %v, though it does not belong to it", c, back, g, got)
		}
		if ok && c.State == Closed {
			t.Fatalf("Next(%v, %v, %v): it belongs to what is closed", c, back, g)
		}
		if ok && got.State == Established && c.State != Established && (c.State != SynReceived || back || g.Flags&a == 0) {
			t.Fatalf("Next(%v, %v, %v): %v", c, back, g, got)
		}
		if ok && got.State == SynReceived && c.State != SynReceived && (c.State != SynSent || !back || g.Flags&(s|a) != s|a || g.Ack != c.A.End) {
			t.Fatalf("Next(%v, %v, %v): %v", c, back, g, got)
		}
	}
}
