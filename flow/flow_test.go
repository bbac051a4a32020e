package flow

import (
	"math"
	"slices"
	"testing"

	"sallyport/addr"
	"sallyport/api"
)

// Turned

func TestTurned(t *testing.T) {
	a, b := api.Addr{Hi: 1, Lo: 2}, api.Addr{Hi: 3, Lo: 4}
	k := api.Key{Proto: api.ProtoUDP, Src: a, Dst: b, SPort: 5, DPort: 6}
	if got := Turned(k); got != (api.Key{Proto: api.ProtoUDP, Src: b, Dst: a, SPort: 6, DPort: 5}) {
		t.Errorf("%v", got)
	}
	if k.Src != a || k.SPort != 5 {
		t.Errorf("what was handed in is %v now", k)
	}
	if got := Turned(api.Key{}); got != (api.Key{}) {
		t.Errorf("of nothing: %v", got)
	}
	same := api.Key{Proto: 1, Src: a, Dst: a, SPort: 7, DPort: 7}
	if got := Turned(same); got != same {
		t.Errorf("of one that is the same both ways: %v", got)
	}
}

func TestTurnedTwiceIsItself(t *testing.T) {
	for _, n := range numbers() {
		for _, m := range numbers() {
			k := api.Key{Proto: n, Src: api.Addr{Hi: uint64(n), Lo: uint64(m)}, Dst: api.Addr{Hi: uint64(m), Lo: 1}, SPort: n, DPort: m}
			back := Turned(k)
			if Turned(back) != k || back.Proto != n || back.Src != k.Dst || back.SPort != m {
				t.Errorf("%v, turned %v, turned again %v", k, back, Turned(back))
			}
		}
	}
}

// P14.1

func TestNewHasNone(t *testing.T) {
	x := New()
	wantAll(t, x)
	wantFree(t, x, api.Key{}, key(1), Turned(key(1)))
	for _, n := range numbers() {
		wantSet(t, x, n, Fresh, n, false)
		wantDrop(t, x, n, false)
		wantDue(t, x, n)
	}
	wantAll(t, x)
}

// Back need not be Open turned: it is not, of a flow that is translated.
func TestFindByBothKeys(t *testing.T) {
	f := Flow{Open: key(1), Back: key(2), In: 3, Out: 4, Rule: 5, State: Answered, Ends: 6}
	g := Flow{Open: key(3), Back: Turned(key(3)), In: -1, Out: math.MaxInt, Rule: -1, State: Closing, Ends: -6}
	x := with(t, f, g)
	wantFind(t, x, key(1), named(1, f), false)
	wantFind(t, x, key(2), named(1, f), true)
	wantFind(t, x, key(3), named(2, g), false)
	wantFind(t, x, Turned(key(3)), named(2, g), true)
	wantFree(t, x, Turned(key(1)), Turned(key(2)), key(4), api.Key{})
	wantAll(t, x, named(1, f), named(2, g))
}

// near answers keys that differ from k in one thing each.
func near(k api.Key) []api.Key {
	l := []api.Key{k, k, k, k, k, k, k, k, k}
	l[0].Proto++
	l[1].Src.Hi++
	l[2].Src.Lo++
	l[3].Dst.Hi++
	l[4].Dst.Lo++
	l[5].SPort++
	l[6].DPort++
	l[7].SPort += 1 << 16
	l[8] = Turned(k)
	return l
}

// A key is all of it: what differs in anything is another one.
func TestFindOfNearKeys(t *testing.T) {
	open := api.Key{Proto: api.ProtoTCP, Src: addr.Of4(1), Dst: addr.Of4(9), SPort: 100, DPort: 200}
	back := api.Key{Proto: api.ProtoTCP, Src: addr.Of4(9), Dst: addr.Of4(3), SPort: 200, DPort: 400}
	x := with(t, Flow{Open: open, Back: back})
	wantFree(t, x, near(open)...)
	wantFree(t, x, near(back)...)
	for i, k := range append(near(open), near(back)...) {
		wantAdd(t, x, Flow{Open: k, Back: key(i)}, i+2, 0)
	}
	wantFind(t, x, open, Flow{ID: 1, Open: open, Back: back}, false)
}

// Keys may have any numbers, also those of nothing.
func TestKeysOfAllKinds(t *testing.T) {
	for _, n := range numbers() {
		k := api.Key{Proto: n, Src: api.Addr{Hi: uint64(n)}, SPort: n, DPort: -n}
		f := Flow{Open: k, Back: api.Key{SPort: 5}, Ends: n}
		x := with(t, f)
		wantAll(t, x, named(1, f))
		f.Open, f.Back = f.Back, f.Open
		x = with(t, f)
		wantAll(t, x, named(1, f))
	}
	zero := Flow{Back: key(1)}
	wantAll(t, with(t, zero), named(1, zero))
	zero = Flow{Open: key(1)}
	wantAll(t, with(t, zero), named(1, zero))
}

// P14.2: Add.

func TestAddOfTakenKeys(t *testing.T) {
	f := Flow{Open: key(1), Back: key(2), State: Answered, Ends: 5}
	for _, x := range []*Table{with(t, f), with(t, f, plain(9, Fresh, 1)), with(t, f, plain(8, Closing, 0), plain(9, Fresh, 1))} {
		wantNot(t, x, Flow{Open: key(1), Back: key(7)}, api.ErrTwice)
		wantNot(t, x, Flow{Open: key(2), Back: key(7)}, api.ErrTwice)
		wantNot(t, x, Flow{Open: key(7), Back: key(1)}, api.ErrTwice)
		wantNot(t, x, Flow{Open: key(7), Back: key(2)}, api.ErrTwice)
		wantNot(t, x, Flow{Open: key(1), Back: key(2)}, api.ErrTwice)
		wantNot(t, x, Flow{Open: key(2), Back: key(1)}, api.ErrTwice)
		wantNot(t, x, Flow{Open: key(7), Back: key(7)}, api.ErrTwice)
		wantNot(t, x, Flow{Open: key(1), Back: key(1)}, api.ErrTwice)
		wantNot(t, x, named(33, f), api.ErrTwice)
		wantFree(t, x, key(7))
	}
	wantNot(t, New(), Flow{}, api.ErrTwice)
	wantNot(t, New(), Flow{Open: key(1), Back: key(1), Ends: 9}, api.ErrTwice)
}

// What an Add that failed named is free all the same.
func TestAddBehindErrTwice(t *testing.T) {
	f := Flow{Open: key(1), Back: key(2)}
	x := with(t, f)
	wantNot(t, x, Flow{Open: key(3), Back: key(2)}, api.ErrTwice)
	g := Flow{Open: key(4), Back: key(3)}
	wantAdd(t, x, g, 2, 0)
	wantAll(t, x, named(1, f), named(2, g))
}

// Keys are held against each other as they are; that one is another one turned does not matter.
func TestAddOfTurnedKeys(t *testing.T) {
	f := Flow{Open: key(1), Back: key(2)}
	g := Flow{Open: Turned(key(1)), Back: Turned(key(2))}
	wantAll(t, with(t, f, g), named(1, f), named(2, g))
	k := key(5)
	k.Dst, k.DPort = k.Src, k.SPort
	wantNot(t, New(), Flow{Open: k, Back: Turned(k)}, api.ErrTwice) // the same both ways
}

// The table gives the ID, whatever f has.
func TestAddGivesTheID(t *testing.T) {
	for _, id := range numbers() {
		x := New()
		for n := 1; n <= 3; n++ {
			wantAdd(t, x, named(id, plain(n, Fresh, 5)), n, 0)
		}
		wantAll(t, x, named(1, plain(1, Fresh, 5)), named(2, plain(2, Fresh, 5)), named(3, plain(3, Fresh, 5)))
	}
}

func TestAddKeepsAll(t *testing.T) {
	for _, n := range numbers() {
		f := Flow{Open: key(1), Back: key(2), In: n, Out: n + 1, Rule: n + 2, State: n, Ends: n}
		wantAll(t, with(t, f), named(1, f))
	}
}

func TestLeastID(t *testing.T) {
	x := filled(t, Answered)
	for i, id := range []int{7, 48, 1, 20, 2} {
		wantDrop(t, x, id, true)
		wantAdd(t, x, plain(100+i, Answered, 100), id, 0)
	}
	for _, id := range []int{30, 3, 48, 12} {
		wantDrop(t, x, id, true)
	}
	for i, id := range []int{3, 12, 30, 48} {
		wantAdd(t, x, plain(200+i, Answered, 200), id, 0)
	}
	wantDue(t, x, 10, 4, 5, 6, 8, 9, 10)
	for i, id := range []int{4, 5, 6, 8, 9, 10} {
		wantAdd(t, x, plain(300+i, Answered, 300), id, 0)
	}
	wantNot(t, x, plain(999, Fresh, 999), api.ErrFull)
}

// P14.2: who goes when there is no room.

func TestRoomForJustSoMany(t *testing.T) {
	x := New()
	var l []Flow
	for n := 1; n <= api.MaxFlows; n++ {
		f := plain(n, Fresh, -n)
		wantAdd(t, x, f, n, 0)
		l = append(l, named(n, f))
		wantAll(t, x, l...)
	}
	f := plain(99, Fresh, 0)
	wantAdd(t, x, f, 48, 48)
	l[47] = named(48, f)
	wantAll(t, x, l...)
	wantFree(t, x, key(48), Turned(key(48)))
}

// mark gives these flows of a table a State and Ends.
func mark(t *testing.T, x *Table, state, ends int, ids ...int) {
	t.Helper()
	for _, id := range ids {
		wantSet(t, x, id, state, ends, true)
	}
}

// Whoever of many ends first goes.
func TestLeastEndsGoes(t *testing.T) {
	for _, state := range []int{Fresh, Closing} {
		for id := 1; id <= api.MaxFlows; id++ {
			x := filled(t, state)
			mark(t, x, state, 0, id)
			wantAdd(t, x, plain(99, Answered, 7), id, id)
			wantFree(t, x, key(id), Turned(key(id)))
			wantFind(t, x, key(99), named(id, plain(99, Answered, 7)), false)
			if l := x.List(); len(l) != api.MaxFlows {
				t.Errorf("%d flows", len(l))
			}
			wantLean(t, x, api.MaxFlows)
		}
	}
}

// Of several that end first the one with the least ID goes, in whatever order they came to that.
func TestLeastIDOfSeveralGoes(t *testing.T) {
	for _, ends := range numbers() {
		for _, ids := range [][]int{{40, 20, 30}, {20, 30, 40}, {30, 40, 20}} {
			x := filled(t, Fresh)
			mark(t, x, Fresh, math.MaxInt, span(1, api.MaxFlows)...)
			for i, id := range ids {
				mark(t, x, []int{Closing, Fresh, Fresh}[i], ends, id)
			}
			want := []int{20, 30, 40}
			if ends == math.MaxInt {
				want = []int{1, 2, 3}
			}
			for i, id := range want {
				wantAdd(t, x, plain(99+i, Answered, math.MinInt), id, id)
			}
		}
	}
}

// Ends are held against each other, not counted off from each other.
func TestEndsFarApart(t *testing.T) {
	x := filled(t, Fresh)
	l := numbers()
	mark(t, x, Answered, math.MinInt, span(1, api.MaxFlows)...)
	for i, ends := range l {
		mark(t, x, []int{Fresh, Closing}[i%2], ends, 40-i)
	}
	for i := range l {
		wantAdd(t, x, plain(99+i, Answered, 0), 40-i, 40-i)
	}
	wantNot(t, x, plain(200, Fresh, 0), api.ErrFull)
}

// Fresh and Closing are alike: neither goes ahead of the other.
func TestFreshAndClosingGo(t *testing.T) {
	x := filled(t, Answered)
	mark(t, x, Fresh, 60, 5)
	mark(t, x, Closing, 50, 9)
	mark(t, x, Fresh, 40, 13)
	mark(t, x, Closing, 30, 17)
	for i, id := range []int{17, 13, 9, 5} {
		wantAdd(t, x, plain(99+i, Answered, 0), id, id)
	}
	wantNot(t, x, plain(200, Fresh, 0), api.ErrFull)
}

// An Answered flow stays, though it ends ahead of all others; nor does one of a state that is none of the three go.
func TestOthersStay(t *testing.T) {
	for _, state := range append(numbers(), Answered) {
		if state == Fresh || state == Closing {
			continue
		}
		x := filled(t, state)
		wantNot(t, x, plain(99, Fresh, math.MinInt), api.ErrFull)
		mark(t, x, Fresh, math.MaxInt, 33)
		wantAdd(t, x, plain(99, state, math.MinInt), 33, 33)
		wantNot(t, x, plain(100, Fresh, math.MinInt), api.ErrFull)
		wantDrop(t, x, 12, true)
		wantAdd(t, x, plain(100, state, 0), 12, 0)
		wantNot(t, x, plain(101, Closing, math.MinInt), api.ErrFull)
	}
}

// The one that comes is not among those that may go: it stays, however early it ends.
func TestWhoComesStays(t *testing.T) {
	x := filled(t, Fresh)
	wantAdd(t, x, plain(99, Fresh, math.MinInt), 1, 1)
	wantAdd(t, x, plain(100, Fresh, math.MaxInt), 1, 1)
	wantAdd(t, x, plain(101, Fresh, 1), 2, 2)
	wantAdd(t, x, plain(102, Fresh, 1), 2, 2)
	wantFind(t, x, key(100), named(1, plain(100, Fresh, math.MaxInt)), false)
	wantFree(t, x, key(99), key(101))
}

// ErrTwice is told first: nobody goes for a flow that may not be, though the key were free behind that, and ErrFull is not told.
func TestErrTwiceAheadOfRoom(t *testing.T) {
	x := filled(t, Fresh)
	for _, k := range []api.Key{key(1), Turned(key(1)), key(48), Turned(key(48))} {
		wantNot(t, x, Flow{Open: k, Back: key(99)}, api.ErrTwice)
		wantNot(t, x, Flow{Open: key(99), Back: k}, api.ErrTwice)
	}
	wantNot(t, x, Flow{Open: key(99), Back: key(99)}, api.ErrTwice)
	wantNot(t, filled(t, Answered), plain(5, Fresh, 0), api.ErrTwice)
}

// The keys of who went are free: they may come again, and turned.
func TestKeysOfWhoWent(t *testing.T) {
	x := filled(t, Fresh)
	wantAdd(t, x, plain(99, Answered, 9), 1, 1)
	wantFree(t, x, key(1), Turned(key(1)))
	f := Flow{Open: Turned(key(1)), Back: key(1), Ends: 77}
	wantAdd(t, x, f, 2, 2)
	wantFind(t, x, key(1), named(2, f), true)
	wantFind(t, x, Turned(key(1)), named(2, f), false)
	wantDue(t, x, 3, 3)
}

// P14.3

func TestSet(t *testing.T) {
	f, g := plain(1, Fresh, 5), plain(2, Fresh, 6)
	for _, state := range numbers() {
		for _, ends := range numbers() {
			x := with(t, f, g)
			wantSet(t, x, 2, state, ends, true)
			h := named(2, g)
			h.State, h.Ends = state, ends
			wantAll(t, x, named(1, f), h)
			for _, id := range numbers() {
				if id != 1 && id != 2 {
					wantSet(t, x, id, state, ends, false)
				}
			}
			wantAll(t, x, named(1, f), h)
		}
	}
}

// The Ends that a flow had are forgotten: earlier ones, later ones, the same ones.
func TestSetAndDue(t *testing.T) {
	for _, first := range numbers() {
		for _, second := range numbers() {
			x := with(t, plain(1, Fresh, first))
			wantSet(t, x, 1, Closing, second, true)
			if second > math.MinInt {
				wantDue(t, x, second-1)
			}
			wantDue(t, x, second, 1)
			wantAll(t, x)
		}
	}
}

func TestDrop(t *testing.T) {
	f, g := Flow{Open: key(1), Back: key(2), Ends: 5}, Flow{Open: key(3), Back: key(4), State: Answered, Ends: 9}
	x := with(t, f, g)
	for _, id := range numbers() {
		if id != 1 && id != 2 {
			wantDrop(t, x, id, false)
		}
	}
	wantAll(t, x, named(1, f), named(2, g))
	wantDrop(t, x, 1, true)
	wantDrop(t, x, 1, false)
	wantSet(t, x, 1, Fresh, 5, false)
	wantAll(t, x, named(2, g))
	wantFree(t, x, key(1), key(2))
	wantDue(t, x, 8)
	wantAdd(t, x, f, 1, 0)
	wantDrop(t, x, 2, true)
	wantAll(t, x, named(1, f))
	wantDrop(t, x, 1, true)
	wantAll(t, x)
	wantDue(t, x, math.MaxInt)
}

func TestDropOneOfMany(t *testing.T) {
	for id := 1; id <= api.MaxFlows; id++ {
		x := filled(t, Answered)
		all := x.List()
		wantDrop(t, x, id, true)
		wantAll(t, x, slices.Delete(all, id-1, id)...)
		wantFree(t, x, key(id), Turned(key(id)))
		wantDue(t, x, id, span(1, id-1)...)
	}
}

// List goes by IDs, neither by Ends nor by the order in which flows came.
func TestListByIDs(t *testing.T) {
	x := with(t, plain(1, Fresh, 9), plain(2, Closing, 3), plain(3, Answered, 6))
	wantDrop(t, x, 1, true)
	wantAdd(t, x, plain(4, Fresh, 1), 1, 0)
	wantAll(t, x, named(1, plain(4, Fresh, 1)), named(2, plain(2, Closing, 3)), named(3, plain(3, Answered, 6)))
}

// P14.4

func TestDueAtTheEdges(t *testing.T) {
	f, g, h := plain(1, Fresh, 10), plain(2, Answered, 11), plain(3, Closing, 12)
	x := with(t, f, g, h)
	wantDue(t, x, 9)
	wantAll(t, x, named(1, f), named(2, g), named(3, h))
	wantDue(t, x, 10, 1) // at most now: at now, too
	wantAll(t, x, named(2, g), named(3, h))
	wantDue(t, x, 10)
	wantDue(t, x, 12, 2, 3)
	wantAll(t, x)
	wantFree(t, x, key(1), Turned(key(2)), key(3))
}

func TestDueInOrder(t *testing.T) {
	x := New()
	for i, ends := range []int{5, 3, 5, 4, 3, -1, 9, 5} {
		wantAdd(t, x, plain(i+1, i%4, ends), i+1, 0)
	}
	wantSet(t, x, 1, Fresh, 4, true) // set last, but the least ID of those that end at 4
	wantDue(t, x, 5, 6, 2, 5, 1, 4, 3, 8)
	wantAll(t, x, named(7, plain(7, 2, 9)))
}

// Whatever its State: also an Answered flow goes.
func TestDueOfAllStates(t *testing.T) {
	for _, state := range numbers() {
		x := with(t, plain(1, state, 5))
		wantDue(t, x, 4)
		wantDue(t, x, 5, 1)
		wantAll(t, x)
	}
}

func TestDueOfTimesFarApart(t *testing.T) {
	l := numbers()
	for i, now := range l {
		x := New()
		for j := range l { // the latest comes first
			wantAdd(t, x, plain(j, Answered, l[len(l)-1-j]), j+1, 0)
		}
		want := span(len(l)-i, len(l))
		slices.Reverse(want)
		wantDue(t, x, now, want...)
		if got := x.List(); len(got) != len(l)-i-1 {
			t.Errorf("%d stay behind %d", len(got), now)
		}
	}
}

// There is no clock: a flow may end ahead of a time that was told.
func TestTimesThatGoBack(t *testing.T) {
	x := with(t, plain(1, Fresh, 100), plain(2, Fresh, 200))
	wantDue(t, x, 150, 1)
	wantAdd(t, x, plain(3, Fresh, -50), 1, 0)
	wantDue(t, x, -51)
	wantDue(t, x, 0, 1)
	wantAll(t, x, named(2, plain(2, Fresh, 200)))
}

func TestDueOfAll(t *testing.T) {
	x := filled(t, Answered)
	wantDue(t, x, 0)
	wantDue(t, x, math.MaxInt, span(1, api.MaxFlows)...)
	wantAll(t, x)
	x = filled(t, Fresh)
	for n := 1; n <= api.MaxFlows; n++ {
		wantDue(t, x, n, n)
		wantFree(t, x, key(n), Turned(key(n)))
		wantLean(t, x, api.MaxFlows-n)
	}
}

// R3

func TestTwoTablesHaveNothingInCommon(t *testing.T) {
	a, b := with(t, plain(1, Fresh, 5), plain(2, Fresh, 6)), New()
	wantAll(t, b)
	wantAdd(t, b, plain(2, Closing, 7), 1, 0)
	wantDrop(t, b, 2, false)
	wantDue(t, b, 9, 1)
	wantAll(t, a, named(1, plain(1, Fresh, 5)), named(2, plain(2, Fresh, 6)))
}

// What was told may be written over, to the end of its spare room.
func TestAnswersAreNewMemory(t *testing.T) {
	x := filled(t, Fresh)
	want := x.List()
	for range 2 {
		l := x.List()
		for i := range l[:cap(l)] {
			l[:cap(l)][i] = Flow{ID: -7, Ends: -7}
		}
		wantAll(t, x, want...)
	}
	first := x.Due(20)
	for i := range first[:cap(first)] {
		first[:cap(first)][i] = -8
	}
	wantAll(t, x, want[20:]...)
	wantDue(t, x, 40, span(21, 40)...)
	for _, id := range first {
		if id != -8 {
			t.Errorf("%d was written into what was told", id)
		}
	}
}

// What a table answers is a flow by itself, too.
func TestFlowsAreValues(t *testing.T) {
	f := plain(1, Fresh, 5)
	x := with(t, f)
	f.Open, f.Ends = key(9), 1
	got, _ := x.Get(1)
	got.State, got.Back = Closing, key(8)
	found, _, _ := x.Find(key(1))
	found.ID, found.Ends = 5, 99
	wantAll(t, x, named(1, plain(1, Fresh, 5)))
}

// What is gone is not kept: a table does not grow with its calls.
func TestNothingIsKeptOfWhatIsGone(t *testing.T) {
	x := New()
	for i := range 20000 {
		x.Add(plain(i, i%3, i+i%70))
		x.Set(1+i%api.MaxFlows, i%2, i+i%90)
		if i%7 == 0 {
			x.Drop(1 + i%5)
		}
		if i%50 == 0 {
			x.Due(i)
		}
		wantLean(t, x, len(x.List()))
	}
	x.Due(math.MaxInt)
	wantAll(t, x)
}

// The chapter's examples.

func TestExamples(t *testing.T) {
	f := Flow{Open: key(1), Back: key(2)}
	x := with(t, f)
	wantFind(t, x, key(2), named(1, f), true)
	wantNot(t, x, Flow{Open: key(2), Back: key(3)}, api.ErrTwice)

	x = filled(t, Fresh)
	wantAdd(t, x, plain(99, Fresh, 49), 1, 1)
	wantSet(t, x, 1, Answered, 99, true)
	wantDue(t, x, 50, span(2, api.MaxFlows)...)
	wantAll(t, x, Flow{ID: 1, Open: key(99), Back: Turned(key(99)), In: 0, Out: 4, Rule: 98, State: Answered, Ends: 99})
}
