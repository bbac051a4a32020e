package wheel

import (
	"math"
	"slices"
	"testing"

	"sallyport/api"
)

// P13.1: New, Set.

func TestNewHasNone(t *testing.T) {
	w := New()
	wantNone(t, w)
	for _, now := range numbers() {
		wantDue(t, w, now)
	}
	wantNone(t, w)
}

func TestSetAnyNumbers(t *testing.T) {
	for _, id := range numbers() {
		for _, at := range numbers() {
			wantAll(t, with(t, timer{id, at}), timer{id, at})
		}
	}
}

// What id had is forgotten: an earlier deadline, a later one, the same one.
func TestSetAgain(t *testing.T) {
	for _, first := range numbers() {
		for _, second := range numbers() {
			w := with(t, timer{7, first}, timer{7, second})
			wantLen(t, w, 1)
			wantNext(t, w, 7, second)
			if second > math.MinInt {
				wantDue(t, w, second-1)
			}
			wantDue(t, w, second, 7)
			wantNone(t, w)
		}
	}
}

// One of many is set again, to each place among them.
func TestSetAgainAmongOthers(t *testing.T) {
	const many = 20
	for moved := range many {
		for to := -1; to <= 10*many; to++ {
			w := New()
			var want []timer
			for i := range many {
				set(t, w, timer{i, 10 * i})
				if i != moved {
					want = append(want, timer{i, 10 * i})
				}
			}
			set(t, w, timer{moved, to})
			place := slices.IndexFunc(want, func(x timer) bool {
				return x.at > to || x.at == to && x.id > moved
			})
			if place < 0 {
				place = len(want)
			}
			wantAll(t, w, slices.Insert(want, place, timer{moved, to})...)
		}
	}
}

// An id may be set again behind Due and Drop, as if it had never been there.
func TestSetOfWhoIsGone(t *testing.T) {
	w := with(t, timer{1, 5})
	wantDue(t, w, 5, 1)
	set(t, w, timer{1, 3})
	wantNext(t, w, 1, 3)
	wantDrop(t, w, 1, true)
	set(t, w, timer{1, 9})
	wantDue(t, w, 8)
	wantDue(t, w, 9, 1)
	wantNone(t, w)
}

func TestFull(t *testing.T) {
	w := New()
	for i := range api.MaxTimers {
		wantLen(t, w, i)
		set(t, w, timer{i, -i})
	}
	wantLen(t, w, api.MaxTimers)
	for _, id := range numbers() {
		if has := id >= 0 && id < api.MaxTimers; has {
			continue
		}
		for _, at := range numbers() {
			if got := w.Set(id, at); got != api.ErrFull {
				t.Errorf("Set(%d, %d): %d", id, at, got)
			}
		}
		wantDrop(t, w, id, false)
	}
	wantNext(t, w, api.MaxTimers-1, 1-api.MaxTimers)
	wantDue(t, w, math.MinInt)
	got := w.Due(math.MaxInt)
	want := span(0, api.MaxTimers-1)
	slices.Reverse(want)
	if !slices.Equal(got, want) {
		t.Errorf("Due: %v", got)
	}
	wantNone(t, w)
}

// Who has a deadline may be set though there is no room.
func TestFullSetAgain(t *testing.T) {
	w := filled(t)
	for i := range api.MaxTimers {
		set(t, w, timer{i, -1 - i})
		wantLen(t, w, api.MaxTimers)
		wantNext(t, w, i, -1-i)
		if w.Set(-1, 0) != api.ErrFull {
			t.Error("there is room")
		}
	}
}

// Each one that goes makes room for just one.
func TestRoomAgain(t *testing.T) {
	w := filled(t)
	wantDrop(t, w, 100, true)
	set(t, w, timer{-1, 100})
	if w.Set(100, 100) != api.ErrFull {
		t.Error("room behind Drop for two")
	}
	wantDue(t, w, 2, 0, 1, 2)
	for i := range 3 {
		set(t, w, timer{1000 + i, 5000})
	}
	if w.Set(0, 0) != api.ErrFull {
		t.Error("room behind Due for four")
	}
	wantDrop(t, w, 0, false)
	wantDue(t, w, 99, span(3, 99)...)
	wantDue(t, w, 100, -1)
	wantDue(t, w, 5000, append(span(101, api.MaxTimers-1), 1000, 1001, 1002)...)
	wantNone(t, w)
}

// P13.1: Drop, Len.

func TestDrop(t *testing.T) {
	w := with(t, timer{1, 5}, timer{2, 3})
	wantDrop(t, w, 3, false)
	wantDrop(t, w, 5, false) // a deadline is no id
	wantDrop(t, w, 0, false)
	wantLen(t, w, 2)
	wantDrop(t, w, 2, true)
	wantDrop(t, w, 2, false)
	wantLen(t, w, 1)
	wantNext(t, w, 1, 5)
	wantDue(t, w, 5, 1)
	wantDrop(t, w, 1, false)
	wantNone(t, w)
}

func TestDropOfTheOnlyOne(t *testing.T) {
	for _, id := range numbers() {
		w := with(t, timer{id, 4})
		for _, other := range numbers() {
			if other != id {
				wantDrop(t, w, other, false)
			}
		}
		wantDrop(t, w, id, true)
		wantNone(t, w)
	}
}

// Whichever of many goes, the others stay, in their order, whatever the order in which they came.
func TestDropOneOfMany(t *testing.T) {
	const many = 31
	for _, step := range []int{1, 7, 30} { // rising, mixed, falling
		for dropped := range many {
			w := New()
			for i := range many {
				id := i * step % many
				set(t, w, timer{id, 3 * id})
			}
			wantDrop(t, w, dropped, true)
			wantLen(t, w, many-1)
			wantDue(t, w, 3*many, slices.Delete(span(0, many-1), dropped, dropped+1)...)
			wantNone(t, w)
		}
	}
}

// Whoever takes the place of one that goes may be due earlier than those about it, or later: the order stays all the same.
func TestDropAllInAnyOrder(t *testing.T) {
	const many = 61
	for _, come := range []int{1, 17, 60} {
		for _, leave := range []int{1, 13, 29, 60} {
			w := New()
			for i := range many {
				id := i * come % many
				set(t, w, timer{id, id / 4})
			}
			left := span(0, many-1)
			for i := range many {
				id := i * leave % many
				wantNext(t, w, left[0], left[0]/4)
				wantDrop(t, w, id, true)
				left = slices.DeleteFunc(left, func(x int) bool { return x == id })
				wantLen(t, w, len(left))
			}
			wantNone(t, w)
		}
	}
}

// P13.2: Due.

func TestDueAtTheEdges(t *testing.T) {
	w := with(t, timer{1, 10}, timer{2, 11}, timer{3, 12})
	wantDue(t, w, 9)
	wantLen(t, w, 3)
	wantDue(t, w, 10, 1) // at most now: at now, too
	wantDue(t, w, 10)
	wantLen(t, w, 2)
	wantDue(t, w, 12, 2, 3)
	wantNone(t, w)
}

func TestDueByDeadlinesThenIDs(t *testing.T) {
	l := []timer{{5, 2}, {9, 1}, {-3, 2}, {0, 2}, {4, 0}, {8, 1}, {math.MaxInt, 0}, {math.MinInt, 2}, {7, 1}, {1, -1}}
	want := []int{1, 4, math.MaxInt, 7, 8, 9, math.MinInt, -3, 0, 5}
	for turn := range l {
		wantDue(t, with(t, append(slices.Clone(l[turn:]), l[:turn]...)...), 2, want...)
	}
	slices.Reverse(l)
	wantDue(t, with(t, l...), 2, want...)
}

// Times are held against each other, not counted off from each other: those at the two ends of 64 bits are far apart.
func TestTimesFarApart(t *testing.T) {
	var l []timer
	for i, at := range numbers() {
		l = append(l, timer{-i, at})
	}
	for i, x := range numbers() {
		w := with(t, l...)
		var want []int
		for j := range i + 1 {
			want = append(want, -j)
		}
		wantDue(t, w, x, want...)
		wantLen(t, w, len(l)-i-1)
		wantAll(t, w, l[i+1:]...)
	}
}

// Ids are held against each other, not counted off from each other, too.
func TestIDsFarApart(t *testing.T) {
	l := numbers()
	w := New()
	for i := range l {
		set(t, w, timer{l[(i+5)%len(l)], 1})
	}
	wantDue(t, w, 1, l...)
}

// There is no clock: a time may be earlier than one that was told, and so may a deadline.
func TestTimesThatGoBack(t *testing.T) {
	w := with(t, timer{1, 100}, timer{2, 200})
	wantDue(t, w, 150, 1)
	set(t, w, timer{3, 50}, timer{4, -50})
	wantNext(t, w, 4, -50)
	wantDue(t, w, -51)
	wantDue(t, w, 49, 4)
	wantDue(t, w, 50, 3)
	wantDue(t, w, 199)
	wantDue(t, w, 200, 2)
	wantNone(t, w)
}

func TestDueOfAll(t *testing.T) {
	w := filled(t)
	wantDue(t, w, -1)
	wantDue(t, w, math.MaxInt, span(0, api.MaxTimers-1)...)
	wantNone(t, w)
	w = filled(t)
	for i := range api.MaxTimers {
		wantNext(t, w, i, i)
		wantDue(t, w, i, i)
		wantDrop(t, w, i, false)
		wantLen(t, w, api.MaxTimers-1-i)
	}
	wantNone(t, w)
}

// P13.2: Next.

func TestNextChangesNothing(t *testing.T) {
	w := with(t, timer{3, 5}, timer{1, 5}, timer{2, 6})
	for range 3 {
		wantNext(t, w, 1, 5)
		wantLen(t, w, 3)
	}
	wantDue(t, w, 5, 1, 3)
	wantNext(t, w, 2, 6)
}

func TestNextBehindSet(t *testing.T) {
	w := with(t, timer{5, 5})
	wantNext(t, w, 5, 5)
	set(t, w, timer{6, 5})
	wantNext(t, w, 5, 5) // of one deadline, the least id
	set(t, w, timer{4, 5})
	wantNext(t, w, 4, 5)
	set(t, w, timer{9, 4})
	wantNext(t, w, 9, 4)
	set(t, w, timer{9, 6})
	wantNext(t, w, 4, 5)
	set(t, w, timer{4, 7})
	wantNext(t, w, 5, 5)
	wantDrop(t, w, 5, true)
	wantAll(t, w, timer{6, 5}, timer{9, 6}, timer{4, 7})
}

// An id and a deadline of 0 are not those of nothing.
func TestNextOfZero(t *testing.T) {
	w := with(t, timer{0, 0})
	wantNext(t, w, 0, 0)
	wantDue(t, w, 0, 0)
	wantNone(t, w)
}

// R3

func TestTwoWheelsHaveNothingInCommon(t *testing.T) {
	a, b := New(), New()
	set(t, a, timer{1, 5}, timer{2, 6})
	wantNone(t, b)
	set(t, b, timer{1, 7})
	wantDrop(t, b, 2, false)
	wantDue(t, b, 9, 1)
	wantAll(t, a, timer{1, 5}, timer{2, 6})
}

// What Due told is neither kept nor told again.
func TestAnswersAreNewMemory(t *testing.T) {
	w := filled(t)
	first := w.Due(99)
	for i, id := range first[:cap(first)] {
		if i >= len(first) && id >= len(first) {
			t.Errorf("%d stands in the spare room", id)
		}
		first[:cap(first)][i] = -7
	}
	second := w.Due(199)
	if !slices.Equal(second, span(100, 199)) {
		t.Errorf("second: %v", second)
	}
	for i := range second[:cap(second)] {
		second[:cap(second)][i] = -8
	}
	for i, id := range first[:cap(first)] {
		if id != -7 {
			t.Errorf("first: %d at %d", id, i)
		}
	}
	wantDue(t, w, math.MaxInt, span(200, api.MaxTimers-1)...)
	wantNone(t, w)
}

// What is gone is not kept, nor what was replaced: a wheel does not grow with its calls.
func TestNothingIsKeptOfWhatIsGone(t *testing.T) {
	w := with(t, timer{-1, math.MaxInt})
	for i := range 100000 {
		set(t, w, timer{i % 50, i}, timer{i % 50, i + 10}, timer{1000, i})
		wantDrop(t, w, 1000, true)
		if i%100 == 0 {
			w.Due(i)
		}
		if len(w.queue) != w.Len() || cap(w.queue) > 2*api.MaxTimers {
			t.Fatalf("step %d: %d deadlines stand in the queue, of %d", i, len(w.queue), w.Len())
		}
	}
	w.Due(math.MaxInt)
	for i, d := range w.queue[:cap(w.queue)] {
		if d != nil {
			t.Fatalf("the deadline of %d is held on to, at %d", d.id, i)
		}
	}
	wantNone(t, w)
}

// The chapter's examples.

func TestExamples(t *testing.T) {
	w := with(t, timer{1, 5}, timer{2, 3}, timer{3, 5})
	wantNext(t, w, 2, 3)
	wantDue(t, w, 4, 2)
	wantDue(t, w, 5, 1, 3)

	w = with(t, timer{1, 5}, timer{1, 9})
	wantDue(t, w, 5)
	wantDrop(t, w, 1, true)
	wantDrop(t, w, 1, false)
}
