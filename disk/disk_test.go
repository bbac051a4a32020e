package disk

import (
	"math"
	"strings"
	"testing"

	"sallyport/api"
)

// wantSector checks what a sector holds.
func wantSector(t *testing.T, d *Disk, i int, want string) {
	t.Helper()
	if s, e := d.Read(i); s != want || e != api.OK {
		t.Errorf("Read(%d): %q, %d; want %q, OK", i, s, e, want)
	}
}

// wantWrite checks what a write answers.
func wantWrite(t *testing.T, d *Disk, i int, s string, want api.Errno) {
	t.Helper()
	if e := d.Write(i, s); e != want {
		t.Errorf("Write(%d, %d bytes): %d; want %d", i, len(s), e, want)
	}
}

// wantState checks the number of writes, and whether the power is gone.
func wantState(t *testing.T, d *Disk, writes int, dead bool) {
	t.Helper()
	if d.Writes() != writes || d.Dead() != dead {
		t.Errorf("Writes() %d, Dead() %v; want %d, %v", d.Writes(), d.Dead(), writes, dead)
	}
}

// made tells how many of twenty writes come to pass.
func made(d *Disk) int {
	n := 0
	for range 20 {
		if d.Write(0, "x") == api.OK {
			n++
		}
	}
	return n
}

// numbers are sector numbers at the edges and far away, each with what is said of it.
func numbers() map[int]api.Errno {
	return map[int]api.Errno{
		math.MinInt: api.ErrSector, -160: api.ErrSector, -1: api.ErrSector,
		0: api.OK, 1: api.OK, 80: api.OK, 158: api.OK, 159: api.OK,
		160: api.ErrSector, 161: api.ErrSector, math.MaxInt: api.ErrSector,
	}
}

// P1.1

func TestNewHasEmptySectors(t *testing.T) {
	d := New()
	for i := range api.MaxSectors {
		wantSector(t, d, i, "")
	}
	wantState(t, d, 0, false)
}

func TestNewHasNothingOrdered(t *testing.T) {
	d := New()
	for n := range 3 * api.MaxSectors {
		wantWrite(t, d, n%api.MaxSectors, "x", api.OK)
	}
	wantState(t, d, 3*api.MaxSectors, false)
}

func TestTwoNewDisksHaveNothingInCommon(t *testing.T) {
	a, b := New(), New()
	a.Write(7, "a")
	a.Cut(0)
	a.Write(7, "aa")
	wantSector(t, b, 7, "")
	wantState(t, b, 0, false)
	wantWrite(t, b, 7, "b", api.OK)
	wantSector(t, a, 7, "a")
	wantState(t, a, 1, true)
}

// P1.2

func TestWriteAtEachSectorNumber(t *testing.T) {
	for i, want := range numbers() {
		d := New()
		wantWrite(t, d, i, "x", want)
		if want == api.OK {
			wantSector(t, d, i, "x")
			wantState(t, d, 1, false)
		} else {
			wantState(t, d, 0, false)
		}
	}
}

func TestWriteTouchesOneSector(t *testing.T) {
	d := New()
	for i := range api.MaxSectors {
		wantWrite(t, d, i, strings.Repeat("s", i), api.OK)
	}
	for i := range api.MaxSectors {
		wantSector(t, d, i, strings.Repeat("s", i))
	}
	wantWrite(t, d, 80, "new", api.OK)
	wantSector(t, d, 79, strings.Repeat("s", 79))
	wantSector(t, d, 80, "new")
	wantSector(t, d, 81, strings.Repeat("s", 81))
	wantState(t, d, api.MaxSectors+1, false)
}

func TestWriteSizes(t *testing.T) {
	texts := []struct {
		s    string
		want api.Errno
	}{
		{"", api.OK},
		{"x", api.OK},
		{strings.Repeat("x", 511), api.OK},
		{strings.Repeat("x", 512), api.OK},
		{strings.Repeat("x", 513), api.ErrSize},
		{strings.Repeat("x", 4096), api.ErrSize},
		{strings.Repeat("é", 256), api.OK},         // 512 bytes
		{strings.Repeat("é", 257), api.ErrSize},    // 257 letters, but 514 bytes
		{strings.Repeat("\x00\xff", 256), api.OK},  // no letters at all
		{strings.Repeat("\xff", 513), api.ErrSize}, // 513 bytes
	}
	for n, c := range texts {
		d := New()
		d.Write(3, "old")
		wantWrite(t, d, 3, c.s, c.want)
		if c.want == api.OK {
			wantSector(t, d, 3, c.s)
			wantState(t, d, 2, false)
		} else {
			wantSector(t, d, 3, "old")
			wantState(t, d, 1, false)
		}
		if t.Failed() {
			t.Fatal("text", n)
		}
	}
}

func TestWriteReplacesAllOfASector(t *testing.T) {
	d := New()
	for n, s := range []string{strings.Repeat("l", 512), "short", "", "again"} {
		wantWrite(t, d, 159, s, api.OK)
		wantSector(t, d, 159, s)
		wantState(t, d, n+1, false)
	}
}

// wantDeadOrder checks that a disk that takes no write names sectors and sizes ahead of the power.
func wantDeadOrder(t *testing.T, d *Disk) {
	t.Helper()
	long := strings.Repeat("x", 513)
	wantWrite(t, d, -1, long, api.ErrSector)
	wantWrite(t, d, 160, "x", api.ErrSector)
	wantWrite(t, d, 0, long, api.ErrSize)
	wantWrite(t, d, 0, "x", api.ErrDead)
}

func TestWriteNamesErrorsInTheirOrder(t *testing.T) {
	d := New()
	wantWrite(t, d, -1, strings.Repeat("x", 513), api.ErrSector)
	wantWrite(t, d, 160, strings.Repeat("x", 513), api.ErrSector)
	d.Cut(0)
	wantDeadOrder(t, d) // a cut without a write left
	wantState(t, d, 0, true)
	wantDeadOrder(t, d) // the power is gone
	wantState(t, d, 0, true)
}

func TestWriteThatMayNotBeSpendsNothing(t *testing.T) {
	d := New()
	d.Cut(1)
	for range 3 {
		wantWrite(t, d, -1, "x", api.ErrSector)
		wantWrite(t, d, 160, "x", api.ErrSector)
		wantWrite(t, d, 0, strings.Repeat("x", 513), api.ErrSize)
	}
	wantState(t, d, 0, false)
	wantWrite(t, d, 0, "a", api.OK)
	wantWrite(t, d, -1, "x", api.ErrSector)
	wantWrite(t, d, 0, strings.Repeat("x", 513), api.ErrSize)
	wantState(t, d, 1, false) // only a write that may be finds the power gone
	wantWrite(t, d, 0, "b", api.ErrDead)
	wantState(t, d, 1, true)
	wantSector(t, d, 0, "a")
}

func TestWritesCountsOnlyWritesThatWereMade(t *testing.T) {
	d := New()
	d.Write(0, "a")
	d.Write(0, "a") // the same text again is a write, too
	d.Write(0, "")
	wantState(t, d, 3, false)
	d.Read(0)
	d.Read(-1)
	d.Write(160, "")
	d.Write(0, strings.Repeat("x", 513))
	wantState(t, d, 3, false)
	d.Cut(1)
	d.Write(1, "b")
	d.Write(1, "c")
	d.Write(1, "d")
	wantState(t, d, 4, true)
	d.Power()
	wantState(t, d, 4, false)
	d.Write(1, "e")
	wantState(t, d, 5, false)
}

// P1.3

func TestReadAtEachSectorNumber(t *testing.T) {
	for _, gone := range []bool{false, true} {
		for i, want := range numbers() {
			d := New()
			d.Write(i, "kept")
			writes := d.Writes()
			if gone {
				d.Cut(0)
				d.Write(0, "lost")
			}
			text := ""
			if want == api.OK {
				text = "kept"
			}
			if s, e := d.Read(i); s != text || e != want {
				t.Errorf("Read(%d), power gone %v: %q, %d; want %q, %d", i, gone, s, e, text, want)
			}
			wantState(t, d, writes, gone)
		}
	}
}

func TestReadSpendsNothing(t *testing.T) {
	d := New()
	d.Write(0, "a")
	d.Cut(1)
	for range 5 {
		wantSector(t, d, 0, "a")
	}
	wantState(t, d, 1, false)
	wantWrite(t, d, 0, "b", api.OK)
}

// P1.4

func TestCutBehindSoManyWrites(t *testing.T) {
	for n, most := range map[int]int{math.MinInt: 0, -7: 0, -1: 0, 0: 0, 1: 1, 2: 2, 159: 159, 160: 160, 1000: 1000} {
		d := New()
		d.Cut(n)
		wantState(t, d, 0, false) // the power goes in a write, not in the order
		for range most {
			wantWrite(t, d, 5, "made", api.OK)
			wantState(t, d, d.Writes(), false)
		}
		for range 3 {
			wantWrite(t, d, 5, "lost", api.ErrDead)
			wantState(t, d, most, true)
		}
		want := "made"
		if most == 0 {
			want = ""
		}
		wantSector(t, d, 5, want)
	}
}

func TestCutOfTheGreatestNumber(t *testing.T) {
	d := New()
	d.Cut(math.MaxInt)
	for range 500 {
		wantWrite(t, d, 0, "x", api.OK)
	}
	wantState(t, d, 500, false)
}

func TestCutTakesThePlaceOfWhatWasOrdered(t *testing.T) {
	for _, first := range []int{-1, 0, 1, 2, 9} {
		for _, second := range []int{-1, 0, 1, 2, 9} {
			d := New()
			d.Cut(first)
			d.Cut(second)
			if n := made(d); n != max(second, 0) {
				t.Errorf("Cut(%d), Cut(%d): %d writes", first, second, n)
			}
		}
	}
	d := New()
	d.Cut(2)
	wantWrite(t, d, 0, "x", api.OK)
	d.Cut(2) // behind some of its writes: counted from the new order on
	wantWrite(t, d, 0, "x", api.OK)
	wantWrite(t, d, 0, "x", api.OK)
	wantWrite(t, d, 0, "x", api.ErrDead)
}

func TestCutDoesNotBringPowerBack(t *testing.T) {
	d := New()
	d.Cut(0)
	d.Write(0, "x")
	d.Cut(3)
	wantState(t, d, 0, true)
	wantWrite(t, d, 0, "x", api.ErrDead)
	wantState(t, d, 0, true)
	d.Power()
	for range 10 { // nor does the order outlive the power that comes back
		wantWrite(t, d, 0, "x", api.OK)
	}
	wantState(t, d, 10, false)
}

func TestPowerTakesAnOrderBack(t *testing.T) {
	for _, n := range []int{-1, 0, 1, 5} {
		d := New()
		d.Cut(n)
		d.Power()
		wantState(t, d, 0, false)
		for range 20 {
			wantWrite(t, d, 0, "x", api.OK)
		}
		wantState(t, d, 20, false)
	}
}

func TestPowerKeepsWhatWasWritten(t *testing.T) {
	d := New()
	d.Power() // with power there, and nothing ordered, nothing changes
	wantState(t, d, 0, false)
	wantWrite(t, d, 0, "first", api.OK)
	d.Cut(1)
	wantWrite(t, d, 159, "last", api.OK)
	wantWrite(t, d, 0, "lost", api.ErrDead)
	d.Power()
	wantState(t, d, 2, false)
	wantSector(t, d, 0, "first")
	wantSector(t, d, 159, "last")
}

func TestPowerGoesAndComesBackAgainAndAgain(t *testing.T) {
	d := New()
	for n := range 4 {
		d.Cut(1)
		wantWrite(t, d, 1, strings.Repeat("k", n+1), api.OK)
		wantWrite(t, d, 1, "lost", api.ErrDead)
		wantState(t, d, n+1, true)
		d.Power()
		wantState(t, d, n+1, false)
		wantSector(t, d, 1, strings.Repeat("k", n+1))
	}
}

// P1.5

func TestCloneHasTheSame(t *testing.T) {
	d := New()
	for i := range api.MaxSectors {
		d.Write(i, strings.Repeat("c", i))
	}
	c := d.Clone()
	if c == d {
		t.Fatal("Clone answers the disk itself")
	}
	for i := range api.MaxSectors {
		wantSector(t, c, i, strings.Repeat("c", i))
	}
	wantState(t, c, api.MaxSectors, false)
	for range 20 { // nothing was ordered
		wantWrite(t, c, 0, "x", api.OK)
	}
}

func TestCloneHasTheOrder(t *testing.T) {
	for n := -1; n <= 3; n++ {
		d := New()
		d.Cut(n)
		c := d.Clone()
		wantState(t, c, 0, false)
		if m := made(c); m != max(n, 0) {
			t.Errorf("a clone behind Cut(%d) made %d writes", n, m)
		}
	}
	d := New()
	d.Cut(3)
	d.Write(0, "x")
	c := d.Clone() // two are left, for each of the two
	for _, one := range []*Disk{c, d} {
		wantWrite(t, one, 0, "x", api.OK)
		wantWrite(t, one, 0, "x", api.OK)
		wantWrite(t, one, 0, "x", api.ErrDead)
	}
}

func TestCloneHasThePower(t *testing.T) {
	d := New()
	d.Write(2, "kept")
	d.Cut(0)
	d.Write(2, "lost")
	c := d.Clone()
	wantState(t, c, 1, true)
	wantSector(t, c, 2, "kept")
	wantWrite(t, c, 2, "lost", api.ErrDead)
	c.Power()
	wantWrite(t, c, 2, "new", api.OK)
	wantState(t, c, 2, false)
	wantState(t, d, 1, true)
	wantSector(t, d, 2, "kept")
}

func TestCloneAndDiskHaveNothingInCommon(t *testing.T) {
	for _, swap := range []bool{false, true} {
		d := New()
		d.Write(0, "old")
		d.Write(159, "end")
		one, other := d, d.Clone()
		if swap {
			one, other = other, one
		}
		one.Write(0, "new")
		one.Write(1, "more")
		one.Cut(0)
		one.Write(159, "lost")
		wantState(t, one, 4, true)
		wantState(t, other, 2, false)
		wantSector(t, other, 0, "old")
		wantSector(t, other, 1, "")
		wantSector(t, other, 159, "end")
		wantWrite(t, other, 159, "far", api.OK)
		wantSector(t, one, 0, "new")
		wantSector(t, one, 159, "end")
		other.Power()
		wantState(t, one, 4, true)
	}
}

// P1.6

// steps are calls that are no Power: those that a cut counts, and those that it does not.
func steps() []func(d *Disk) {
	return []func(d *Disk){
		func(d *Disk) { d.Write(0, "x") },
		func(d *Disk) { d.Write(159, strings.Repeat("y", 512)) },
		func(d *Disk) { d.Write(160, "x") },
		func(d *Disk) { d.Write(0, strings.Repeat("x", 513)) },
		func(d *Disk) { d.Read(0); d.Read(-1); d.Dead(); d.Clone() },
	}
}

// TestNextWritesComeToPass goes through all rows of five steps, behind each of some cuts.
func TestNextWritesComeToPass(t *testing.T) {
	const length = 5
	all := steps()
	rows := 1
	for range length {
		rows *= len(all)
	}
	for n := -1; n <= length; n++ {
		for row := range rows {
			d := New()
			d.Cut(n)
			wanted, rest := 0, row
			for range length {
				kind := rest % len(all)
				rest /= len(all)
				if kind < 2 { // the first two kinds are writes that may be
					wanted++
				}
				all[kind](d)
				if d.Writes() != min(wanted, max(n, 0)) || d.Dead() != (wanted > max(n, 0)) {
					t.Fatalf("Cut(%d), row %d: %d writes, dead %v; %d were wanted", n, row, d.Writes(), d.Dead(), wanted)
				}
			}
		}
	}
}

// The chapter's examples.

func TestExamples(t *testing.T) {
	d := New()
	wantWrite(t, d, 0, "a", api.OK)
	wantWrite(t, d, 160, "a", api.ErrSector)
	wantWrite(t, d, 0, strings.Repeat("x", 513), api.ErrSize)
	wantSector(t, d, 0, "a")
	wantState(t, d, 1, false)

	d.Cut(1)
	wantWrite(t, d, 1, "x", api.OK)
	wantWrite(t, d, 1, "y", api.ErrDead)
	wantState(t, d, 2, true)
	wantSector(t, d, 1, "x")
	d.Power()
	wantWrite(t, d, 1, "z", api.OK)
	wantSector(t, d, 1, "z")
}
