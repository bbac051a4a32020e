package window

import (
	"math"
	"testing"

	"sallyport/wire"
)

// The flags, by short names.
const (
	f = wire.Fin
	s = wire.Syn
	r = wire.Rst
	a = wire.Ack
)

// P15.1

func TestLess(t *testing.T) {
	for _, from := range points() {
		for _, row := range []struct {
			more uint32
			less bool
		}{{0, false}, {1, true}, {2, true}, {65536, true}, {1<<31 - 2, true}, {1<<31 - 1, true}, {1 << 31, false}, {1<<31 + 1, false}, {1<<32 - 2, false}, {1<<32 - 1, false}} {
			if got := Less(from, from+row.more); got != row.less {
				t.Errorf("Less(%d, %d): %v", from, from+row.more, got)
			}
		}
	}
}

func TestOfTwoAtMostOneIsLess(t *testing.T) {
	for _, x := range points() {
		for _, y := range points() {
			neither := x == y || x-y == 1<<31
			if one, other := Less(x, y), Less(y, x); one && other || (!one && !other) != neither {
				t.Errorf("%d, %d: %v, %v", x, y, one, other)
			}
		}
	}
}

// P15.2

func TestOpen(t *testing.T) {
	wantOpen(t, seg(s, ofA, 0, 0), sent())
	wantOpen(t, narrow(seg(s, 0, 0, 0), 0), Conn{State: SynSent, A: side(1, 1)})
	wantOpen(t, narrow(seg(s, math.MaxUint32, 0, 0), 65535), Conn{State: SynSent, A: side(0, 65535)})
	wantOpen(t, narrow(seg(s, math.MaxUint32-1, 0, 0), 65535), Conn{State: SynSent, A: side(math.MaxUint32, 65534)})
}

// What is in a header beside flags, sequence number, window and data says nothing of it.
func TestOpenPassesTheRestOver(t *testing.T) {
	wantOpen(t, wire.Trans{SPort: 1, DPort: 2, Seq: ofA, Ack: 3, Flags: s, Window: wide, Type: 4, Code: 5, Head: 6}, sent())
	for _, o := range others() {
		wantOpen(t, seg(s|o, ofA, 77, 0), sent())
		wantNone(t, seg(o, ofA, 77, 0))
	}
}

func TestOpenWithAnyWindow(t *testing.T) {
	for _, n := range numbers() {
		wantOpen(t, narrow(seg(s, ofA, 0, 0), n), Conn{State: SynSent, A: side(ofA+1, ofA+1+uint32(n))})
	}
}

func TestJustASynOpens(t *testing.T) {
	for flags := range 256 {
		if flags&(f|s|r|a) == s {
			wantOpen(t, seg(flags, ofA, 0, 0), sent())
		} else {
			wantNone(t, seg(flags, ofA, 0, 0))
		}
	}
}

func TestASynWithDataOpensNothing(t *testing.T) {
	for _, n := range numbers() {
		if n != 0 {
			wantNone(t, seg(s, ofA, 0, n))
		}
	}
}

// P15.3, 1

func TestNothingBelongsToAnotherState(t *testing.T) {
	for _, n := range numbers() {
		if n >= SynSent && n <= Closing {
			continue
		}
		for _, c := range []Conn{{}, sent(), received(), established(), closing()} {
			c.State = n
			for flags := range 32 {
				for _, p := range []uint32{ofA, ofA + 1, ofB, ofB + 1} {
					wantNot(t, c, false, seg(flags, p, ofB+1, 0))
					wantNot(t, c, true, seg(flags, p, ofA+1, 0))
				}
			}
		}
	}
}

// P15.3, 2

func TestAnAckOfWhatWasNotSent(t *testing.T) {
	c := established()
	for _, flags := range []int{a, a | f, a | r} {
		for _, more := range []uint32{1, 2, 1000, 1<<31 - 1} {
			wantNot(t, c, false, seg(flags, ofA+1, ofB+1+more, 0))
			wantNot(t, c, true, seg(flags, ofB+1, ofA+1+more, 0))
		}
	}
	// Up to its End, and what Less does not tell to be behind it, it may be acknowledged.
	for _, less := range []uint32{0, 1, 1000, 1<<31 - wide} {
		wantNext(t, c, false, narrow(seg(a, ofA+1, ofB+1-less, 0), 0), c)
		wantNext(t, c, true, narrow(seg(a, ofB+1, ofA+1-less, 0), 0), c)
	}
	want := c
	want.B.Most = ofB + 1 + 1<<31 // Less tells it to be the greater one
	wantNext(t, c, false, narrow(seg(a, ofA+1, ofB+1+1<<31, 0), 0), want)
}

func TestAnAckOfASideThatIsNotSeen(t *testing.T) {
	for _, ack := range points() {
		wantNext(t, sent(), false, seg(a, ofA+1, ack, 0), sent())
		wantNext(t, sent(), false, seg(s|a, ofA, ack, 0), sent())
	}
	c := received()
	wantNot(t, c, false, seg(s|a, ofA, ofB+2, 0))
	wantNext(t, c, false, seg(s|a, ofA, ofB+1, 0), c)
}

func TestWithoutAnAck(t *testing.T) {
	for _, c := range []Conn{sent(), received(), established(), closing()} {
		for _, flags := range []int{0, f, 8, f | 8} {
			wantNot(t, c, false, seg(flags, c.A.End, c.B.End, 0))
			wantNot(t, c, false, seg(flags, c.A.End, c.B.End, 1))
			wantNot(t, c, true, seg(flags, c.B.End, c.A.End, 0))
		}
		gone := c
		gone.State = Closed
		// What Ack tells without its flag says nothing.
		wantNext(t, c, false, seg(r, c.A.End, c.B.End+9, 0), gone)
	}
}

// P15.3, 3

func TestASynWithMore(t *testing.T) {
	for _, c := range []Conn{sent(), received()} {
		for _, flags := range []int{s | f, s | r, s | f | r, s | a | f, s | a | r, s | a | f | r} {
			wantNot(t, c, false, seg(flags, ofA, c.B.End, 0))
			wantNot(t, c, false, seg(flags, ofA-1, c.B.End, 0)) // END is A's End
			wantNot(t, c, true, seg(flags, ofB, ofA+1, 0))
			wantNot(t, c, true, seg(flags, ofB-1, ofA+1, 0))
		}
		for _, n := range numbers() {
			if n != 0 {
				wantNot(t, c, false, seg(s, ofA, 0, n))
				wantNot(t, c, false, seg(s, ofA-uint32(n), 0, n))
				wantNot(t, c, true, seg(s|a, ofB, ofA+1, n))
			}
		}
	}
}

func TestASynThatIsSentAgain(t *testing.T) {
	for _, o := range others() {
		for _, window := range numbers() {
			wantNext(t, sent(), false, narrow(seg(s|o, ofA, 0, 0), window), sent())
			wantNext(t, received(), false, narrow(seg(s|o, ofA, 0, 0), window), received())
			wantNext(t, received(), true, narrow(seg(s|a|o, ofB, ofA+1, 0), window), received())
			wantNext(t, received(), true, narrow(seg(s|o, ofB, ofA+9, 0), window), received())
		}
	}
	for _, seq := range []uint32{ofA - 1, ofA + 1, ofA + 2, ofA + wide, ofA + 1<<31} {
		wantNot(t, sent(), false, seg(s, seq, 0, 0))
		wantNot(t, received(), false, seg(s, seq, 0, 0))
		wantNot(t, received(), true, seg(s|a, seq+ofB-ofA, ofA+1, 0))
	}
}

func TestASynOfAConnectionThatStands(t *testing.T) {
	for _, c := range []Conn{established(), closing()} {
		for _, seq := range []uint32{ofA - 1, ofA, ofA + 1, ofA + 2, ofB, ofB + 1} {
			for _, flags := range []int{s, s | a} {
				wantNot(t, c, false, seg(flags, seq, ofB+1, 0))
				wantNot(t, c, true, seg(flags, seq, ofA+1, 0))
			}
		}
	}
}

func TestTheSynOfB(t *testing.T) {
	wantNext(t, sent(), true, seg(s|a, ofB, ofA+1, 0), received())
	for _, o := range others() {
		wantNext(t, sent(), true, seg(s|a|o, ofB, ofA+1, 0), received())
	}
	for _, seq := range points() {
		for _, window := range numbers() {
			want := Conn{State: SynReceived, A: sent().A, B: side(seq+1, seq+1+uint32(window))}
			if Less(want.A.Most, ofA+1+uint32(window)) {
				want.A.Most = ofA + 1 + uint32(window)
			}
			wantNext(t, sent(), true, narrow(seg(s|a, seq, ofA+1, 0), window), want)
		}
	}
}

func TestTheSynOfBTellsHowFarAMaySend(t *testing.T) {
	for _, row := range []struct {
		window int
		most   uint32
	}{{0, ofA + 1 + wide}, {wide - 1, ofA + 1 + wide}, {wide, ofA + 1 + wide}, {wide + 1, ofA + 2 + wide}, {65535, ofA + 1 + 65535}} {
		want := received()
		want.A.Most, want.B.Most = row.most, ofB+1+uint32(row.window)
		wantNext(t, sent(), true, narrow(seg(s|a, ofB, ofA+1, 0), row.window), want)
	}
}

func TestASynThatIsNotTheOneOfB(t *testing.T) {
	wantNot(t, sent(), true, seg(s, ofB, ofA+1, 0)) // without Ack
	for _, ack := range []uint32{0, ofA - 1, ofA, ofA + 2, ofA + 1 + 1<<31} {
		wantNot(t, sent(), true, seg(s|a, ofB, ack, 0))
	}
	for _, state := range []int{SynReceived, Established, Closing} {
		c := sent()
		c.State = state
		wantNot(t, c, true, seg(s|a, ofB, ofA+1, 0))
	}
	// A, that was not seen, opens nothing here, whatever the state is.
	for _, state := range []int{SynSent, SynReceived, Established, Closing} {
		c := turned(sent())
		c.State = state
		wantNot(t, c, false, seg(s|a, ofB, ofA+1, 0))
		wantNot(t, c, false, seg(s, ofB, ofA+1, 0))
	}
}

func TestTheSynOfBWithoutA(t *testing.T) {
	c := Conn{State: SynSent, A: Side{End: 7, Most: 8}}
	wantNext(t, c, true, seg(s|a, ofB, 7, 0), Conn{State: SynReceived, A: c.A, B: side(ofB+1, ofB+1+wide)})
	wantNot(t, c, true, seg(s|a, ofB, 8, 0))
}

// Behind its Syn nothing else is known of B.
func TestTheSynOfBBeginsAnew(t *testing.T) {
	c := sent()
	c.B = Side{End: 7, Most: 8, Fin: true}
	wantNext(t, c, true, seg(s|a, ofB, ofA+1, 0), received())
}

// P15.3, 4

func TestARefusal(t *testing.T) {
	gone := sent()
	gone.State = Closed
	for _, flags := range []int{r | a, r | a | f, r | a | 8} {
		for _, data := range []int{0, 1, 100000, -1} {
			for _, seq := range points() {
				wantNext(t, sent(), true, seg(flags, seq, ofA+1, data), gone)
			}
		}
		for _, ack := range []uint32{0, ofA, ofA + 2, ofA + 1 + 1<<31} {
			wantNot(t, sent(), true, seg(flags, 0, ack, 0))
		}
	}
	for _, flags := range []int{r, a, r | f, a | f, r | 8, a | 8} {
		wantNot(t, sent(), true, seg(flags, 0, ofA+1, 0))
		wantNot(t, sent(), true, seg(flags, 0, ofA+1, 1))
	}
}

// What was not seen is refused by either side, in each state that is open; what else is kept of it stays.
func TestARefusalOfAnyState(t *testing.T) {
	for _, state := range []int{SynSent, SynReceived, Established, Closing} {
		for _, c := range []Conn{
			{State: state, A: side(5, 9), B: Side{End: 1, Most: 2, Fin: true}},
			{State: state, A: fin(side(5, 9))},
			{State: state, A: Side{End: 5}},
		} {
			gone := c
			gone.State = Closed
			wantNext(t, c, true, seg(r|a, 77, 5, 0), gone)
			wantNext(t, turned(c), false, seg(r|a, 77, 5, 0), turned(gone))
			wantNot(t, c, true, seg(r|a, 77, 4, 0))
			wantNot(t, turned(c), false, seg(r|a, 77, 4, 0))
		}
	}
}

func TestTheWindowsEnd(t *testing.T) {
	c := established()
	for _, row := range []struct {
		flags int
		seq   uint32
		data  int
		end   uint32
	}{
		{a, ofA + 1, wide, ofA + 1 + wide}, // just up to it
		{a, ofA + 1 + wide, 0, ofA + 1 + wide},
		{a, ofA + wide, 1, ofA + 1 + wide},
		{a | f, ofA + wide, 0, ofA + 1 + wide},
		{a | f, ofA + 1, wide - 1, ofA + 1 + wide},
	} {
		want := c
		want.A.End = row.end
		if row.flags&f != 0 {
			want.A.Fin, want.State = true, Closing
		}
		wantNext(t, c, false, seg(row.flags, row.seq, ofB+1, row.data), want)
		wantNot(t, c, false, seg(row.flags, row.seq+1, ofB+1, row.data)) // one more is beyond it
		wantNot(t, c, false, seg(row.flags, row.seq, ofB+1, row.data+1))
		wantNot(t, c, false, seg(row.flags|f, row.seq, ofB+1, row.data+1))
		wantNot(t, c, false, seg(row.flags|r, row.seq+1, ofB+1, row.data))
	}
	// So far ahead of it that Less does not tell it any more, it is not beyond, and not greater.
	wantNext(t, c, false, seg(a, ofA+1+1<<31-65536, ofB+1, 65536+wide), c)
	wantNot(t, c, false, seg(a, ofA+1+1<<31-65536, ofB+1, 65535+wide))
}

func TestTooOld(t *testing.T) {
	c := established()
	c.A = side(100000, 101000)
	for _, seq := range []uint32{100000 - 65536, 100000 - 65535, 99999, 100000} {
		wantNext(t, c, false, seg(a, seq, ofB+1, 0), c)
		wantNext(t, turned(c), true, seg(a, seq, ofB+1, 0), turned(c))
	}
	for _, seq := range []uint32{100000 - 65537, 100000 - 65538, 0, 101000 + 1<<31} {
		wantNot(t, c, false, seg(a, seq, ofB+1, 0))
		wantNot(t, turned(c), true, seg(a, seq, ofB+1, 0))
		wantNot(t, c, false, seg(a, seq, ofB+1, 100000-int(seq))) // by where it begins, though it ends at A's End
		wantNot(t, c, false, seg(r, seq, ofB+1, 0))
	}
}

func TestTooOldAboutNought(t *testing.T) {
	c := established()
	c.A = side(5, 1005)
	wantNext(t, c, false, seg(a, math.MaxUint32-65535+5, ofB+1, 0), c)
	wantNot(t, c, false, seg(a, math.MaxUint32-65536+5, ofB+1, 0))
}

// P15.3, 5

func TestTheEndOfTheSender(t *testing.T) {
	c := established()
	c.A = side(1000, 2000)
	for _, row := range []struct {
		flags int
		seq   uint32
		data  int
		end   uint32
	}{
		{a, 1000, 10, 1010}, {a, 1010, 10, 1020}, {a, 990, 10, 1000}, {a, 990, 5, 1000}, {a, 990, 11, 1001}, {a, 1000, 0, 1000}, {a, 1500, 0, 1500},
		{a, 1001, -1, 1000}, {a, 1000, 1<<32 + 3, 1003}, {a, 1000, -1 << 32, 1000},
	} {
		want := c
		want.A.End = row.end
		wantNext(t, c, false, seg(row.flags, row.seq, ofB+1, row.data), want)
		wantNext(t, turned(c), true, seg(row.flags, row.seq, ofB+1, row.data), turned(want))
	}
}

func TestTheEndGoesRound(t *testing.T) {
	c := established()
	c.A = side(math.MaxUint32-1, 998)
	want := c
	want.A.End = 8
	wantNext(t, c, false, seg(a, math.MaxUint32-1, ofB+1, 10), want)
	wantNext(t, want, false, seg(a, math.MaxUint32-1, ofB+1, 5), want)
}

func TestHowFarTheOtherOneMaySend(t *testing.T) {
	c := established()
	for _, row := range []struct {
		ack    uint32
		window int
		most   uint32
	}{
		{ofB + 1, wide, ofB + 1 + wide}, {ofB + 1, wide - 1, ofB + 1 + wide}, {ofB + 1, wide + 1, ofB + 2 + wide}, {ofB, wide + 1, ofB + 1 + wide},
		{ofB, wide + 2, ofB + 2 + wide}, {ofB + 1, 65535, ofB + 1 + 65535}, {ofB + 1, 0, ofB + 1 + wide}, {ofB + 1, -1, ofB + 1 + wide}, {ofB + 1, 1 << 32, ofB + 1 + wide},
		{ofB + 1, 1<<32 + 2000, ofB + 2001}, {ofB + 1, wide + 1<<31 - 1, ofB + wide + 1<<31}, {ofB + 1, wide + 1<<31, ofB + 1 + wide},
	} {
		want := c
		want.B.Most = row.most
		wantNext(t, c, false, narrow(seg(a, ofA+1, row.ack, 0), row.window), want)
		wantNext(t, turned(c), true, narrow(seg(a, ofA+1, row.ack, 0), row.window), turned(want))
		want.State = Closed // what is behind them does not hang on it
		wantNext(t, c, false, narrow(seg(a|r, ofA+1, row.ack, 0), row.window), want)
		wantNext(t, c, false, narrow(seg(r, ofA+1, row.ack, 0), row.window), Conn{State: Closed, A: c.A, B: c.B}) // without Ack nothing is told
	}
	// Of one that is not seen nothing is known, either.
	for _, b := range []Side{{}, {End: ofB + 1, Most: ofB + 1}} {
		c.B = b
		wantNext(t, c, false, seg(a, ofA+1, ofB+1, 0), c)
	}
}

func TestFin(t *testing.T) {
	for _, row := range []struct{ c, want Conn }{
		{sent(), Conn{State: Closing, A: fin(side(ofA+2, ofA+1+wide))}},
		{received(), Conn{State: Closing, A: fin(side(ofA+2, ofA+1+wide)), B: received().B}},
		{established(), closing()},
		{closing(), Conn{State: Closing, A: fin(side(ofA+3, ofA+1+wide)), B: closing().B}},
	} {
		wantNext(t, row.c, false, seg(a|f, row.c.A.End, row.c.B.End, 0), row.want)
	}
	want := received()
	want.State, want.B = Closing, fin(side(ofB+2, ofB+1+wide))
	wantNext(t, received(), true, seg(a|f, ofB+1, ofA+1, 0), want)
	both := closing()
	both.B = fin(side(ofB+2, ofB+1+wide))
	wantNext(t, closing(), true, narrow(seg(a|f, ofB+1, ofA+2, 0), 0), both)
	// It counts where it lies, behind the data; and also where its byte was sent already.
	c := established()
	c.A.End += 10
	want = c
	want.A.Fin, want.State = true, Closing
	wantNext(t, c, false, seg(a|f, ofA+1, ofB+1, 9), want)
	want.A.End++
	wantNext(t, c, false, seg(a|f, ofA+1, ofB+1, 10), want)
}

// A Fin stays, and makes the state Closing behind whichever segment belongs to it.
func TestFinStays(t *testing.T) {
	for _, state := range []int{SynSent, SynReceived, Established, Closing} {
		for _, c := range []Conn{closing(), turned(closing())} {
			c.State = state
			want := c
			want.State = Closing
			wantNext(t, c, false, narrow(seg(a, c.A.End, c.B.End, 0), 0), want)
			wantNext(t, c, true, narrow(seg(a, c.B.End, c.A.End, 0), 0), want)
		}
	}
}

func TestEstablished(t *testing.T) {
	for _, ack := range []uint32{ofB + 1, ofB, 0, ofB + 1 + wide + 1<<31} {
		wantNext(t, received(), false, narrow(seg(a, ofA+1, ack, 0), 0), established())
	}
	want := established()
	want.A.End += 5
	wantNext(t, received(), false, seg(a, ofA+1, ofB+1, 5), want)
	wantNext(t, received(), true, seg(a, ofB+1, ofA+1, 0), received()) // B's Ack is not A's
	wantNext(t, sent(), false, seg(a, ofA+1, ofB+1, 0), sent())
	wantNext(t, established(), false, seg(a, ofA+1, ofB+1, 0), established())
	wantNext(t, closing(), false, seg(a, ofA+2, ofB+1, 0), closing())
	want = received()
	want.State = Closed
	wantNext(t, received(), false, seg(r, ofA+1, ofB+1, 0), want)
}

func TestRst(t *testing.T) {
	for _, c := range []Conn{sent(), received(), established(), closing(), turned(received()), turned(closing())} {
		gone := c
		gone.State = Closed
		for _, flags := range []int{r, r | a} {
			wantNext(t, c, false, narrow(seg(flags, c.A.End, c.B.End, 0), 0), gone)
			if c.B.Seen {
				wantNext(t, c, true, narrow(seg(flags, c.B.End, c.A.End, 0), 0), gone)
			}
			wantNot(t, c, false, seg(flags, c.A.Most+1, c.B.End, 0))
		}
		// What it brings is noted all the same.
		gone.A = fin(gone.A)
		gone.A.End += 8
		wantNext(t, c, false, narrow(seg(r|f|a, c.A.End, c.B.End, 7), 0), gone)
	}
}

// P15.4

func TestLife(t *testing.T) {
	of := map[int]int{SynSent: 10, SynReceived: 10, Established: 1000, Closing: 20}
	for _, n := range numbers() {
		want, ok := of[n]
		if !ok {
			want = 2
		}
		for _, c := range []Conn{{}, sent(), closing()} {
			c.State = n
			if got := Life(c); got != want {
				t.Errorf("Life in state %d: %d; want %d", n, got, want)
			}
		}
	}
}

func TestStates(t *testing.T) {
	if SynSent != 1 || SynReceived != 2 || Established != 3 || Closing != 4 || Closed != 5 {
		t.Error("the states' numbers")
	}
}

// What a header tells beside flags, numbers, window and data says nothing.
func TestNextPassesTheRestOver(t *testing.T) {
	for _, c := range []Conn{sent(), received(), established(), closing()} {
		for flags := range 32 {
			for _, back := range []bool{false, true} {
				plain := seg(flags, ofA+1, ofB+1, 3)
				if back {
					plain = seg(flags, ofB, ofA+1, 0)
				}
				want, wantOK := Next(c, back, plain)
				full := plain
				full.SPort, full.DPort, full.Type, full.Code, full.Head = 1, 2, 3, 4, 5
				for _, o := range others() {
					full.Flags = flags | o
					if got, ok := Next(c, back, full); got != want || ok != wantOK {
						t.Errorf("Next(%v, %v, %v): %v, %v; want %v, %v", c, back, full, got, ok, want, wantOK)
					}
				}
			}
		}
	}
}

// R3, R5

func TestWhatIsHandedInStays(t *testing.T) {
	c, first := sent(), sent()
	for range 3 {
		wantNext(t, c, true, seg(s|a, ofB, ofA+1, 0), received())
		if c != first {
			t.Fatalf("what was handed in is %v now", c)
		}
	}
}

// The chapter's examples.
func TestExamples(t *testing.T) {
	c, ok := Open(seg(s, 100, 0, 0))
	if !ok || c.State != SynSent || c.A.End != 101 || c.A.Most != 1101 {
		t.Fatalf("%v, %v", c, ok)
	}
	c, ok = Next(c, true, seg(s|a, 500, 101, 0))
	if !ok || c.State != SynReceived || c.B.End != 501 {
		t.Fatalf("%v, %v", c, ok)
	}
	c, ok = Next(c, false, seg(a, 101, 501, 0))
	if !ok || c.State != Established {
		t.Fatalf("%v, %v", c, ok)
	}
	c, ok = Next(c, false, seg(a, 101, 501, 10))
	if !ok || c.A.End != 111 {
		t.Fatalf("%v, %v", c, ok)
	}
	wantNot(t, c, false, seg(a, 5000, 501, 0))
	wantNot(t, c, true, seg(a, 501, 9999, 0))
	c, ok = Next(c, false, seg(a|f, 111, 501, 0))
	if !ok || c.State != Closing {
		t.Fatalf("%v, %v", c, ok)
	}
	c, ok = Next(c, true, seg(r|a, 501, 112, 0))
	if !ok || c.State != Closed {
		t.Fatalf("%v, %v", c, ok)
	}
}
