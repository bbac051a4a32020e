package store

import (
	"math"
	"math/rand"
	"slices"
	"strings"
	"testing"

	"sallyport/api"
	"sallyport/disk"
)

// slotValue is what a slot has.
type slotValue struct {
	value string
	is    bool
}

// all is what all slots have.
type all [api.MaxSlots]slotValue

// behind answers what the slots have behind a Set of l.
func (a all) behind(l []Put) all {
	for _, p := range l {
		a[p.Slot] = slotValue{p.Value, true}
		if p.Gone {
			a[p.Slot] = slotValue{}
		}
	}
	return a
}

// told answers what Get tells of all slots.
func told(s *Store) all {
	var a all
	for n := range a {
		a[n].value, a[n].is = s.Get(n)
	}
	return a
}

// wantAll checks what a store tells of all slots, and its steps.
func wantAll(t *testing.T, s *Store, want all, steps int) {
	t.Helper()
	for n, got := range told(s) {
		if got != want[n] {
			t.Errorf("Get(%d): %.20q (%d bytes), %v; want %.20q (%d bytes), %v", n, got.value, len(got.value), got.is, want[n].value, len(want[n].value), want[n].is)
		}
	}
	if s.Steps() != steps {
		t.Errorf("Steps() %d; want %d", s.Steps(), steps)
	}
}

// wantGet checks what a store tells of one slot.
func wantGet(t *testing.T, s *Store, slot int, value string, is bool) {
	t.Helper()
	if v, ok := s.Get(slot); v != value || ok != is {
		t.Errorf("Get(%d): %.20q, %v; want %.20q, %v", slot, v, ok, value, is)
	}
}

// wantSet checks what a Set answers.
func wantSet(t *testing.T, s *Store, want api.Errno, l ...Put) {
	t.Helper()
	if e := s.Set(l); e != want {
		t.Errorf("Set of %d: %d; want %d", len(l), e, want)
	}
}

// text answers n bytes, no two sectors of them alike, nor those of two seeds.
func text(n, seed int) string {
	b := make([]byte, n)
	for i := range b {
		b[i] = byte(i*7 + i/256 + seed*31)
	}
	return string(b)
}

// fill has a Put of the longest value for each slot.
func fill(seed int) []Put {
	var l []Put
	for n := range api.MaxSlots {
		l = append(l, Put{Slot: n, Value: text(api.MaxValue, seed+n)})
	}
	return l
}

// P2.1

func TestOpenOfANewDisk(t *testing.T) {
	d := disk.New()
	wantAll(t, Open(d), all{}, 0)
	if d.Writes() != 0 {
		t.Error("raw writes:", d.Writes())
	}
}

func TestOpenMakesNoRawWrite(t *testing.T) {
	d := disk.New()
	s := Open(d)
	wantSet(t, s, api.OK, fill(1)...)
	want, writes := all{}.behind(fill(1)), d.Writes()
	wantAll(t, Open(d), want, 1)
	d.Cut(0) // an order alone
	wantAll(t, Open(d), want, 1)
	if d.Dead() || d.Writes() != writes {
		t.Error("Open made a raw write")
	}
	wantSet(t, s, api.ErrDead, Put{Slot: 0, Value: "x"}) // the power is gone from now on
	wantAll(t, Open(d), want, 1)
	if !d.Dead() || d.Writes() != writes {
		t.Error("Open made a raw write without power")
	}
}

func TestOpenWithoutPowerSetsBehindIt(t *testing.T) {
	d := disk.New()
	wantSet(t, Open(d), api.OK, Put{Slot: 2, Value: "old"})
	d.Cut(0)
	d.Write(0, "lost")
	s := Open(d)
	d.Power()
	wantSet(t, s, api.OK, Put{Slot: 2, Value: "new"})
	wantGet(t, s, 2, "new", true)
	wantGet(t, Open(d), 2, "new", true)
}

// TestOpenOfAnotherDisk goes through disks that somebody else wrote: calls end.
func TestOpenOfAnotherDisk(t *testing.T) {
	r := rand.New(rand.NewSource(2))
	for round := range 400 {
		d := disk.New()
		for i := range api.MaxSectors {
			n := r.Intn(api.SectorSize + 1)
			if round%2 == 0 && i == rootSector { // of the root's length, so that its numbers are looked at
				n = rootBytes
			}
			b := make([]byte, n)
			r.Read(b)
			if round == 0 {
				b = slices.Repeat([]byte{0xff}, n)
			}
			d.Write(i, string(b))
		}
		s := Open(d)
		told(s)
		s.Steps()
		if e := s.Set(fill(round)); e != api.OK {
			t.Fatal("round", round, "Set:", e)
		}
		if told(s) != (all{}.behind(fill(round))) {
			t.Fatal("round", round, "what was set is not there")
		}
	}
}

func TestTwoDisksHaveNothingInCommon(t *testing.T) {
	d := disk.New()
	a := Open(d)
	wantSet(t, a, api.OK, Put{Slot: 0, Value: "both"})
	c := d.Clone()
	b := Open(c)
	wantSet(t, a, api.OK, Put{Slot: 0, Value: "a"}, Put{Slot: 1, Value: "more"})
	wantSet(t, b, api.OK, Put{Slot: 0, Value: "b"})
	wantAll(t, a, all{{"a", true}, {"more", true}}, 2)
	wantAll(t, b, all{{"b", true}}, 2)
	wantAll(t, Open(c), all{{"b", true}}, 2)
	wantAll(t, Open(disk.New()), all{}, 0)
}

// P2.2

func TestGetAtEachSlotNumber(t *testing.T) {
	s := Open(disk.New())
	for _, n := range []int{math.MinInt, -1, 0, 7, 8, 160, 256, math.MaxInt} {
		wantGet(t, s, n, "", false)
	}
	wantSet(t, s, api.OK, fill(3)...)
	for _, n := range []int{math.MinInt, -256, -8, -1, 8, 9, 160, 256, math.MaxInt} {
		wantGet(t, s, n, "", false)
	}
	for n := range api.MaxSlots {
		wantGet(t, s, n, text(api.MaxValue, 3+n), true)
	}
}

func TestGetTellsAnEmptyValueFromNone(t *testing.T) {
	d := disk.New()
	s := Open(d)
	wantSet(t, s, api.OK, Put{Slot: 4})
	wantGet(t, s, 4, "", true)
	wantGet(t, Open(d), 4, "", true)
	wantGet(t, s, 3, "", false)
	wantGet(t, s, 5, "", false)
	wantSet(t, s, api.OK, Put{Slot: 4, Gone: true})
	wantGet(t, s, 4, "", false)
	wantGet(t, Open(d), 4, "", false)
}

func TestGetMakesNoRawWrite(t *testing.T) {
	d := disk.New()
	s := Open(d)
	wantSet(t, s, api.OK, Put{Slot: 0, Value: "kept"})
	writes := d.Writes()
	d.Cut(0)
	wantAll(t, s, all{{"kept", true}}, 1)
	if d.Dead() || d.Writes() != writes {
		t.Error("Get or Steps made a raw write")
	}
}

// P2.3

func TestSetOfEachLength(t *testing.T) {
	d := disk.New()
	s := Open(d)
	steps := 0
	for _, n := range []int{0, 1, 2, 511, 512, 513, 1023, 1024, 1025, 3583, 3584, 3585, 4095, 4096} {
		for _, slot := range []int{0, 7} {
			steps++
			wantSet(t, s, api.OK, Put{Slot: slot, Value: text(n, n)})
			wantGet(t, s, slot, text(n, n), true)
			wantGet(t, Open(d), slot, text(n, n), true)
		}
	}
	for _, n := range []int{4097, 4608, 70000} {
		wantSet(t, s, api.ErrSize, Put{Slot: 0, Value: text(n, n)})
		wantGet(t, s, 0, text(4096, 4096), true)
	}
	if s.Steps() != steps {
		t.Errorf("Steps() %d; want %d", s.Steps(), steps)
	}
}

func TestSetTakesAnyBytes(t *testing.T) {
	s := Open(disk.New())
	for _, v := range []string{"\x00", strings.Repeat("\x00", 600), strings.Repeat("\xff", 600), "é\n\r\"", strings.Repeat("é", 300)} {
		wantSet(t, s, api.OK, Put{Slot: 6, Value: v})
		wantGet(t, s, 6, v, true)
	}
	long := strings.Repeat("é", 2049) // fewer letters than bytes may be, but 4098 bytes
	wantSet(t, s, api.ErrSize, Put{Slot: 6, Value: long})
}

func TestSetTouchesOnlyWhatIsNamed(t *testing.T) {
	d := disk.New()
	s := Open(d)
	wantSet(t, s, api.OK, fill(5)...)
	want := all{}.behind(fill(5))
	steps := 1
	for _, l := range [][]Put{
		{{Slot: 3, Value: "short"}},
		{{Slot: 7, Gone: true}, {Slot: 0, Value: ""}},
		{{Slot: 2, Gone: true}, {Slot: 5, Value: text(700, 9)}, {Slot: 7, Value: "again"}},
		{{Slot: 2, Gone: true}}, // which it is already
		{{Slot: 6, Gone: true, Value: "what goes has no value"}},
	} {
		wantSet(t, s, api.OK, l...)
		want = want.behind(l)
		steps++
		wantAll(t, s, want, steps)
		wantAll(t, Open(d), want, steps)
	}
}

// wrong are lists that may not be, each with what is said of it: the first of several errors, wherever in the list they stand.
func wrong() []struct {
	l    []Put
	want api.Errno
} {
	long := text(4097, 0)
	return []struct {
		l    []Put
		want api.Errno
	}{
		{[]Put{{Slot: -1}}, api.ErrSlot},
		{[]Put{{Slot: 8}}, api.ErrSlot},
		{[]Put{{Slot: math.MinInt}}, api.ErrSlot},
		{[]Put{{Slot: math.MaxInt}}, api.ErrSlot},
		{[]Put{{Slot: 8, Gone: true}}, api.ErrSlot},
		{[]Put{{Slot: 0, Value: "x"}, {Slot: 1, Value: "x"}, {Slot: 8, Value: "x"}}, api.ErrSlot},
		{[]Put{{Slot: 0, Value: long}, {Slot: 0, Value: long}, {Slot: -1}}, api.ErrSlot},
		{[]Put{{Slot: 0}, {Slot: 0}, {Slot: 8}}, api.ErrSlot},
		{[]Put{{Slot: 8, Value: long}}, api.ErrSlot},
		{[]Put{{Slot: 0, Value: long}}, api.ErrSize},
		{[]Put{{Slot: 0, Value: "x"}, {Slot: 7, Value: long}}, api.ErrSize},
		{[]Put{{Slot: 1}, {Slot: 1}, {Slot: 2, Value: long}}, api.ErrSize},
		{[]Put{{Slot: 1, Value: long}, {Slot: 1, Gone: true}}, api.ErrSize},
		{[]Put{{Slot: 0}, {Slot: 0}}, api.ErrArg},
		{[]Put{{Slot: 0, Value: "x"}, {Slot: 0, Value: "x"}}, api.ErrArg},
		{[]Put{{Slot: 5, Gone: true}, {Slot: 5, Gone: true}}, api.ErrArg},
		{[]Put{{Slot: 5, Gone: true}, {Slot: 6}, {Slot: 5, Value: "x"}}, api.ErrArg},
		{[]Put{{Slot: 5, Gone: true, Value: long}, {Slot: 5}}, api.ErrArg},
		{append(fill(0), Put{Slot: 7}), api.ErrArg},
	}
}

func TestSetNamesErrorsInTheirOrder(t *testing.T) {
	d := disk.New()
	s := Open(d)
	wantSet(t, s, api.OK, Put{Slot: 0, Value: "kept"}, Put{Slot: 5, Value: "too"})
	want := told(s)
	for _, state := range []string{"power", "order", "dead"} {
		switch state {
		case "order":
			d.Cut(0)
		case "dead":
			wantSet(t, s, api.ErrDead, Put{Slot: 0, Value: "lost"})
		}
		writes, dead := d.Writes(), d.Dead()
		for n, c := range wrong() {
			if e := s.Set(c.l); e != c.want {
				t.Errorf("%s, list %d: %d; want %d", state, n, e, c.want)
			}
		}
		if d.Writes() != writes || d.Dead() != dead {
			t.Errorf("%s: a list that may not be made a raw write", state)
		}
		wantAll(t, s, want, 1)
	}
}

func TestSetOfWhatGoesMayHaveALongValue(t *testing.T) {
	s := Open(disk.New())
	wantSet(t, s, api.OK, Put{Slot: 0, Value: "x"})
	wantSet(t, s, api.OK, Put{Slot: 0, Value: text(4097, 0), Gone: true})
	wantAll(t, s, all{}, 2)
}

func TestSetOfNothing(t *testing.T) {
	d := disk.New()
	s := Open(d)
	wantSet(t, s, api.OK)
	wantSet(t, s, api.OK, []Put{}...)
	wantAll(t, s, all{}, 0)
	d.Cut(0)
	wantSet(t, s, api.OK)
	if d.Writes() != 0 || d.Dead() {
		t.Error("an empty list made a raw write")
	}
	wantSet(t, s, api.ErrDead, Put{Slot: 0})
	wantSet(t, s, api.OK) // nothing to do needs no power
	wantAll(t, s, all{}, 0)
}

func TestSetWithoutPower(t *testing.T) {
	for _, l := range [][]Put{{{Slot: 1, Value: "new"}}, {{Slot: 1, Gone: true}}, {{Slot: 2, Gone: true}}, {{Slot: 1, Value: "old"}}, fill(0)} {
		d := disk.New()
		s := Open(d)
		wantSet(t, s, api.OK, Put{Slot: 1, Value: "old"})
		want := told(s)
		d.Cut(0)
		d.Write(0, "lost") // the power is gone ahead of the call
		wantSet(t, s, api.ErrDead, l...)
		wantAll(t, s, want, 1)
		d.Power()
		wantSet(t, s, api.ErrDead, l...)
		wantAll(t, Open(d), want, 1)
	}
}

// TestStoreStaysDead checks that what a store tells stays behind a Set without power, whatever comes to pass on the disk.
func TestStoreStaysDead(t *testing.T) {
	d := disk.New()
	s := Open(d)
	wantSet(t, s, api.OK, fill(1)...)
	want := told(s)
	d.Cut(3)
	wantSet(t, s, api.ErrDead, fill(2)...)
	d.Power()
	writes := d.Writes()
	wantSet(t, s, api.ErrDead, fill(3)...)
	wantSet(t, s, api.ErrDead, Put{Slot: 0, Gone: true})
	if d.Writes() != writes {
		t.Error("a store made raw writes behind a Set without power")
	}
	other := Open(d)
	for seed := range 5 { // each sector is written again
		wantSet(t, other, api.OK, fill(10+seed)...)
	}
	if told(s) != want {
		t.Error("what Get tells did not stay")
	}
	d.Cut(0)
	d.Power()
	wantSet(t, s, api.ErrDead, Put{Slot: 0, Value: "x"})
	if told(s) != want {
		t.Error("what Get tells did not stay")
	}
	wantAll(t, other, all{}.behind(fill(14)), 6)
	if s.Steps() != 6 { // of the disk, whoever made them
		t.Errorf("Steps() %d; want 6", s.Steps())
	}
}

func TestStoresShareTheDisk(t *testing.T) {
	d := disk.New()
	a, b := Open(d), Open(d)
	wantSet(t, a, api.OK, Put{Slot: 0, Value: "a"})
	wantSet(t, b, api.OK, Put{Slot: 1, Value: "b"})
	wantSet(t, a, api.OK, Put{Slot: 2, Value: text(4096, 2)})
	want := all{{"a", true}, {"b", true}, {text(4096, 2), true}}
	wantAll(t, a, want, 3)
	wantAll(t, b, want, 3)
	wantAll(t, Open(d), want, 3)
}

func TestSetLeavesItsListAlone(t *testing.T) {
	room := append(fill(1), Put{Slot: 99, Value: "behind the list"})
	before := slices.Clone(room)
	s := Open(disk.New())
	wantSet(t, s, api.OK, room[:8]...)
	if !slices.Equal(room, before) {
		t.Error("the list was changed")
	}
	for i := range room {
		room[i] = Put{}
	}
	if told(s) != (all{}.behind(fill(1))) {
		t.Error("the list was kept")
	}
}

// P2.4

func TestStepsCountsWhatWasDone(t *testing.T) {
	d := disk.New()
	s := Open(d)
	for n := range 700 { // more than a byte tells
		if s.Steps() != n {
			t.Fatalf("Steps() %d; want %d", s.Steps(), n)
		}
		s.Set(nil)
		s.Set([]Put{{Slot: 8}})
		wantSet(t, s, api.OK, Put{Slot: n % 8, Value: "v", Gone: n%3 == 0})
	}
	if n := Open(d).Steps(); n != 700 {
		t.Errorf("Steps() %d; want 700", n)
	}
}

// P2.5

// lists are Sets of several sizes, to be made one behind the other.
func lists() [][]Put {
	return [][]Put{
		{{Slot: 0, Value: "a"}, {Slot: 1, Value: text(1300, 1)}},
		fill(20),
		{{Slot: 7, Gone: true}, {Slot: 3, Value: text(513, 3)}, {Slot: 0, Value: ""}},
		fill(30),
		{{Slot: 0, Gone: true}, {Slot: 1, Gone: true}},
		fill(40),
		{{Slot: 4, Gone: true}, {Slot: 2, Value: text(4096, 7)}},
	}
}

func TestSetMakesFewRawWrites(t *testing.T) {
	d := disk.New()
	s := Open(d)
	for n, l := range lists() {
		writes := d.Writes()
		wantSet(t, s, api.OK, l...)
		if made := d.Writes() - writes; made > 80 || made == 0 {
			t.Errorf("list %d: %d raw writes", n, made)
		}
	}
}

// TestPowerGoesInEachRawWrite cuts the power in each raw write of each Set: what an opened store tells is what was ahead of it, or what is behind it, and its steps say which.
func TestPowerGoesInEachRawWrite(t *testing.T) {
	d := disk.New()
	want := all{}
	for n, l := range lists() {
		for left := 0; ; left++ {
			c := d.Clone()
			s := Open(c)
			c.Cut(left)
			e := s.Set(l)
			if e == api.OK {
				break
			}
			if e != api.ErrDead || left > 80 {
				t.Fatalf("list %d, cut %d: %d", n, left, e)
			}
			if told(s) != want {
				t.Fatalf("list %d, cut %d: what the store tells did not stay", n, left)
			}
			wantOne(t, Open(c), want, want.behind(l), n)
			c.Power()
			wantOne(t, Open(c), want, want.behind(l), n)
		}
		wantSet(t, Open(d), api.OK, l...)
		want = want.behind(l)
		wantAll(t, Open(d), want, n+1)
	}
}

// wantOne checks that a store tells what was ahead of a Set, or what is behind it, with the steps that belong to it.
func wantOne(t *testing.T, s *Store, ahead, behind all, steps int) {
	t.Helper()
	switch got := told(s); {
	case got == ahead && s.Steps() == steps:
	case got == behind && s.Steps() == steps+1:
	default:
		t.Fatalf("a mixture, or wrong steps: %d", s.Steps())
	}
}

// TestPowerGoesAgainAndAgain makes many Sets, most of them with a cut, on one disk.
func TestPowerGoesAgainAndAgain(t *testing.T) {
	r := rand.New(rand.NewSource(1))
	d := disk.New()
	s := Open(d)
	want, steps := all{}, 0
	for round := range 3000 {
		l := randomList(r, round)
		if r.Intn(4) > 0 {
			d.Cut(r.Intn(70))
		}
		switch e := s.Set(l); e {
		case api.OK:
			want = want.behind(l)
			steps++
		case api.ErrDead:
			s = Open(d)
			wantOne(t, s, want, want.behind(l), steps)
			want, steps = told(s), s.Steps()
			d.Power()
		default:
			t.Fatal("round", round, "Set:", e)
		}
		wantAll(t, s, want, steps)
		if t.Failed() {
			t.Fatal("round", round)
		}
	}
}

// randomList answers a list that may be and is not empty.
func randomList(r *rand.Rand, seed int) []Put {
	var l []Put
	for _, slot := range r.Perm(api.MaxSlots)[:1+r.Intn(api.MaxSlots)] {
		n := r.Intn(api.MaxValue + 1)
		if r.Intn(3) == 0 {
			n = api.SectorSize * r.Intn(9)
		}
		l = append(l, Put{Slot: slot, Value: text(n, seed), Gone: r.Intn(4) == 0})
	}
	return l
}

// The chapter's examples.

func TestExamples(t *testing.T) {
	d := disk.New()
	s := Open(d)
	wantGet(t, s, 0, "", false)
	wantSet(t, s, api.OK, Put{Slot: 0, Value: "a"}, Put{Slot: 1, Value: "b"})
	wantGet(t, s, 1, "b", true)
	wantAll(t, s, all{{"a", true}, {"b", true}}, 1)

	wantSet(t, s, api.ErrSlot, Put{Slot: 8, Value: "x"})
	wantSet(t, s, api.ErrSize, Put{Slot: 0, Value: strings.Repeat("x", 4097)})
	wantSet(t, s, api.ErrArg, Put{Slot: 0, Value: "x"}, Put{Slot: 0, Value: "y"})
	wantSet(t, s, api.OK)

	d.Cut(0)
	wantSet(t, s, api.ErrDead, Put{Slot: 0, Value: "c"}, Put{Slot: 1, Gone: true})
	d.Power()
	wantAll(t, Open(d), all{{"a", true}, {"b", true}}, 1)
}
