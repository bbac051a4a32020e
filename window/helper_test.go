package window

import (
	"math"
	"testing"

	"sallyport/wire"
)

// The first numbers of the sides, and their windows.
const (
	ofA  = 100
	ofB  = 500
	wide = 1000
)

// seg answers a segment with the window wide.
func seg(flags int, seq, ack uint32, data int) wire.Trans {
	return wire.Trans{Flags: flags, Seq: seq, Ack: ack, Data: data, Window: wide}
}

// narrow answers t with that window.
func narrow(t wire.Trans, window int) wire.Trans {
	t.Window = window
	return t
}

// side answers a side that sent up to end, and may send up to most.
func side(end, most uint32) Side { return Side{Seen: true, End: end, Most: most} }

// fin answers s behind its Fin.
func fin(s Side) Side {
	s.Fin = true
	return s
}

// sent, received and established are connections in that state, of the first numbers ofA and ofB.
func sent() Conn { return Conn{State: SynSent, A: side(ofA+1, ofA+1+wide)} }

func received() Conn {
	return Conn{State: SynReceived, A: side(ofA+1, ofA+1+wide), B: side(ofB+1, ofB+1+wide)}
}

func established() Conn {
	c := received()
	c.State = Established
	return c
}

// closing is established, behind a Fin of A.
func closing() Conn {
	c := established()
	c.State, c.A = Closing, fin(side(ofA+2, c.A.Most))
	return c
}

// wantNext checks what is behind a segment that belongs to c.
func wantNext(t *testing.T, c Conn, back bool, s wire.Trans, want Conn) {
	t.Helper()
	if got, ok := Next(c, back, s); got != want || !ok {
		t.Errorf("Next(%v, %v, %v): %v, %v; want %v, true", c, back, s, got, ok, want)
	}
}

// wantNot checks that a segment does not belong to c.
func wantNot(t *testing.T, c Conn, back bool, s wire.Trans) {
	t.Helper()
	if got, ok := Next(c, back, s); got != c || ok {
		t.Errorf("Next(%v, %v, %v): %v, %v; want it itself, false", c, back, s, got, ok)
	}
}

// wantOpen checks what a segment opens.
func wantOpen(t *testing.T, s wire.Trans, want Conn) {
	t.Helper()
	if got, ok := Open(s); got != want || !ok {
		t.Errorf("Open(%v): %v, %v; want %v, true", s, got, ok, want)
	}
}

// wantNone checks that a segment opens nothing.
func wantNone(t *testing.T, s wire.Trans) {
	t.Helper()
	if got, ok := Open(s); got != (Conn{}) || ok {
		t.Errorf("Open(%v): %v, %v; want none", s, got, ok)
	}
}

// turned answers c with its sides exchanged.
func turned(c Conn) Conn {
	c.A, c.B = c.B, c.A
	return c
}

// others are flags that say nothing here: beside Fin, Syn, Rst and Ack, and behind a byte.
func others() []int { return []int{0, 8, 32, 64, 128, 232, 256, 1 << 40, math.MinInt} }

// numbers are states, windows and numbers of bytes of all kinds, from the least one to the greatest one.
func numbers() []int {
	return []int{math.MinInt, math.MinInt + 1, -1 << 32, -2, -1, 0, 1, 2, 3, 4, 5, 6, 7, 65535, 65536, 1<<31 - 1, 1 << 31, 1<<32 - 1, 1 << 32, math.MaxInt - 1, math.MaxInt}
}

// points are sequence numbers: the least ones, the greatest ones, and those about the middle.
func points() []uint32 {
	return []uint32{0, 1, 2, 65535, 65536, 1<<31 - 2, 1<<31 - 1, 1 << 31, 1<<31 + 1, 1<<31 + 2, 1<<32 - 65536, 1<<32 - 2, 1<<32 - 1}
}
