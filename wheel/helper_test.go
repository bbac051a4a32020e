package wheel

import (
	"math"
	"slices"
	"testing"

	"sallyport/api"
)

// timer is an id with its deadline.
type timer struct{ id, at int }

// set gives all of these their deadlines, in their order.
func set(t *testing.T, w *Wheel, l ...timer) {
	t.Helper()
	for _, x := range l {
		if got := w.Set(x.id, x.at); got != api.OK {
			t.Errorf("Set(%d, %d): %d", x.id, x.at, got)
		}
	}
}

// with answers a wheel that has these deadlines.
func with(t *testing.T, l ...timer) *Wheel {
	t.Helper()
	w := New()
	set(t, w, l...)
	return w
}

// filled answers a wheel with MaxTimers deadlines: of the ids from 0 on, each at its id.
func filled(t *testing.T) *Wheel {
	t.Helper()
	w := New()
	for i := range api.MaxTimers {
		set(t, w, timer{i, i})
	}
	return w
}

// wantDue checks what Due tells.
func wantDue(t *testing.T, w *Wheel, now int, want ...int) {
	t.Helper()
	if got := w.Due(now); !slices.Equal(got, want) {
		t.Errorf("Due(%d): %v; want %v", now, got, want)
	}
}

// wantNext checks what Next tells where there is a first one.
func wantNext(t *testing.T, w *Wheel, id, at int) {
	t.Helper()
	if gotID, gotAt, ok := w.Next(); gotID != id || gotAt != at || !ok {
		t.Errorf("Next: %d, %d, %v; want %d, %d, true", gotID, gotAt, ok, id, at)
	}
}

func wantLen(t *testing.T, w *Wheel, want int) {
	t.Helper()
	if got := w.Len(); got != want {
		t.Errorf("Len: %d; want %d", got, want)
	}
}

func wantDrop(t *testing.T, w *Wheel, id int, want bool) {
	t.Helper()
	if got := w.Drop(id); got != want {
		t.Errorf("Drop(%d): %v", id, got)
	}
}

// wantNone checks that there are no deadlines.
func wantNone(t *testing.T, w *Wheel) {
	t.Helper()
	wantLen(t, w, 0)
	if id, at, ok := w.Next(); id != 0 || at != 0 || ok {
		t.Errorf("Next: %d, %d, %v; want 0, 0, false", id, at, ok)
	}
	wantDue(t, w, math.MaxInt)
	for _, id := range numbers() {
		wantDrop(t, w, id, false)
	}
}

// wantAll checks that there are these deadlines, in their order, and no others; none is left behind it.
func wantAll(t *testing.T, w *Wheel, l ...timer) {
	t.Helper()
	for i, x := range l {
		wantLen(t, w, len(l)-i)
		wantNext(t, w, x.id, x.at)
		wantDrop(t, w, x.id, true)
	}
	wantNone(t, w)
}

// span answers the numbers from from to to, these two with it.
func span(from, to int) []int {
	var l []int
	for i := from; i <= to; i++ {
		l = append(l, i)
	}
	return l
}

// numbers are ids and times of all kinds, from the least one to the greatest one.
func numbers() []int {
	return []int{math.MinInt, math.MinInt + 1, -1 << 32, -2, -1, 0, 1, 2, 255, 256, 1 << 32, math.MaxInt - 1, math.MaxInt}
}
