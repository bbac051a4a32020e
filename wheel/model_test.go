package wheel

import (
	"math"
	"math/rand"
	"slices"
	"testing"

	"sallyport/api"
)

// What the chapter says, said once more, with a list without an order that is gone through for each call.

type model struct{ list []timer }

func (m *model) drop(id int) bool {
	var rest []timer
	for _, x := range m.list {
		if x.id != id {
			rest = append(rest, x)
		}
	}
	had := len(rest) < len(m.list)
	m.list = rest
	return had
}

func (m *model) set(id, at int) api.Errno {
	had := m.drop(id)
	if !had && len(m.list) == 256 {
		return 120
	}
	m.list = append(m.list, timer{id, at})
	return 0
}

func (m *model) next() (int, int, bool) {
	var first timer
	for i, x := range m.list {
		if i == 0 || x.at < first.at || x.at == first.at && x.id < first.id {
			first = x
		}
	}
	return first.id, first.at, len(m.list) > 0
}

func (m *model) due(now int) []int {
	var ids []int
	for {
		id, at, ok := m.next()
		if !ok || at > now {
			return ids
		}
		m.drop(id)
		ids = append(ids, id)
	}
}

// call is one call of a row.
type call struct {
	kind byte // s: Set, d: Drop, t: Due
	id   int
	at   int
}

// wantCall checks one call, and what Next and Len tell behind it; it answers how many ids were told, or, of a Set or a Drop, 1 if it did anything.
func wantCall(t *testing.T, w *Wheel, m *model, c call) int {
	t.Helper()
	did := 0
	switch c.kind {
	case 's':
		got, want := w.Set(c.id, c.at), m.set(c.id, c.at)
		if got != want {
			t.Fatalf("Set(%d, %d): %d, not %d", c.id, c.at, got, want)
		}
		if got == api.OK {
			did = 1
		}
	case 'd':
		got, want := w.Drop(c.id), m.drop(c.id)
		if got != want {
			t.Fatalf("Drop(%d): %v", c.id, got)
		}
		if got {
			did = 1
		}
	case 't':
		got, want := w.Due(c.at), m.due(c.at)
		if !slices.Equal(got, want) {
			t.Fatalf("Due(%d): %v, not %v", c.at, got, want)
		}
		did = len(got)
	}
	wantSame(t, w, m)
	return did
}

// wantSame checks what can be told of two without a change.
func wantSame(t *testing.T, w *Wheel, m *model) {
	t.Helper()
	if w.Len() != len(m.list) {
		t.Fatalf("Len: %d, not %d", w.Len(), len(m.list))
	}
	id, at, ok := w.Next()
	wantID, wantAt, wantOK := m.next()
	if id != wantID || at != wantAt || ok != wantOK {
		t.Fatalf("Next: %d, %d, %v, not %d, %d, %v", id, at, ok, wantID, wantAt, wantOK)
	}
}

// All rows of calls of a few ids and times.
func TestAllShortRows(t *testing.T) {
	var calls []call
	for id := range 3 {
		calls = append(calls, call{'d', id, 0})
		for at := range 2 {
			calls = append(calls, call{'s', id, at})
		}
	}
	calls = append(calls, call{'t', 0, 0}, call{'t', 0, 1})
	const length = 5
	rows := 1
	for range length {
		rows *= len(calls)
	}
	for row := range rows {
		w, m := New(), &model{}
		for rest := row; rest > 0; rest /= len(calls) {
			wantCall(t, w, m, calls[rest%len(calls)])
		}
		if got, want := w.Due(1), m.due(1); !slices.Equal(got, want) {
			t.Fatalf("row %d: at the end Due(1): %v, not %v", row, got, want)
		}
	}
}

// some answers one of all kinds of numbers, but mostly of the few ones from 0 on.
func some(r *rand.Rand, few int) int {
	switch r.Intn(200) {
	case 0:
		return numbers()[r.Intn(len(numbers()))]
	case 1:
		return int(r.Uint64()) >> r.Intn(64)
	}
	return r.Intn(few)
}

// someCall answers a call: mostly a Set, by far, if many is so.
func someCall(r *rand.Rand, many bool, ids, times int) call {
	c := call{'s', some(r, ids), some(r, times)}
	kind := r.Intn(10)
	if many {
		kind = r.Intn(400)
	}
	switch {
	case kind < 3:
		c.kind = 'd'
	case kind < 4:
		c.kind, c.at = 't', some(r, 1+times/4)
	}
	return c
}

func TestAgainstTheModel(t *testing.T) {
	var did, not [256]int
	for seed := range 400 {
		r := rand.New(rand.NewSource(int64(seed)))
		w, m := New(), &model{}
		many, ids, times := seed%4 == 0, 1+r.Intn(20), 1+r.Intn(200)
		if seed%2 == 0 {
			ids = 280 + r.Intn(200)
		}
		for range 1000 {
			c := someCall(r, many, ids, times)
			if n := wantCall(t, w, m, c); n > 0 {
				did[c.kind] += n
			} else {
				not[c.kind]++
			}
		}
		for _, now := range []int{times / 4, times / 2, times, math.MaxInt} {
			wantCall(t, w, m, call{'t', 0, now})
		}
		wantNone(t, w)
	}
	for _, kind := range "sdt" {
		if did[kind] < 5000 || not[kind] < 1000 {
			t.Errorf("%c: %d did something, %d did nothing: too few", kind, did[kind], not[kind])
		}
	}
}

// P13.3

// two answers two wheels with the same deadlines, some of them set twice, some dropped, some told.
func two(r *rand.Rand) (*Wheel, *Wheel) {
	a, b := New(), New()
	ids, times := 1+r.Intn(400), 1+r.Intn(60)
	for range r.Intn(600) {
		c := someCall(r, r.Intn(2) == 0, ids, times)
		for _, w := range []*Wheel{a, b} {
			switch c.kind {
			case 's':
				w.Set(c.id, c.at)
			case 'd':
				w.Drop(c.id)
			case 't':
				w.Due(c.at / 2)
			}
		}
	}
	return a, b
}

func TestOneBehindTheOther(t *testing.T) {
	both := 0
	for seed := range 2000 {
		r := rand.New(rand.NewSource(int64(seed)))
		a, b := two(r)
		times := []int{some(r, 60), some(r, 60), some(r, 60)}
		slices.Sort(times)
		var got []int
		parts := 0
		for _, now := range times {
			told := a.Due(now)
			if len(told) > 0 {
				parts++
			}
			got = append(got, told...)
		}
		if want := b.Due(times[2]); !slices.Equal(got, want) {
			t.Fatalf("seed %d: %v, one behind the other %v, not %v", seed, times, got, want)
		}
		if parts > 1 {
			both++
		}
		if got, want := a.Due(math.MaxInt), b.Due(math.MaxInt); !slices.Equal(got, want) {
			t.Fatalf("seed %d: what stays is %v, not %v", seed, got, want)
		}
	}
	if both < 500 {
		t.Errorf("just %d times several told something", both)
	}
}

// Each id is told once for each time that it was set and not dropped; one that is set again ahead of being told has one deadline all the same.
func TestToldOnce(t *testing.T) {
	for seed := range 300 {
		r := rand.New(rand.NewSource(int64(seed)))
		w, open, ids := New(), map[int]bool{}, 1+r.Intn(300)
		tell := func(now int) {
			for _, id := range w.Due(now) {
				if !open[id] {
					t.Fatalf("seed %d: %d is told, but was not set, or dropped, or told", seed, id)
				}
				delete(open, id)
			}
		}
		for now := range 500 {
			id := r.Intn(ids)
			switch r.Intn(8) {
			case 0:
				if w.Drop(id) != open[id] {
					t.Fatalf("seed %d: Drop(%d): %v", seed, id, !open[id])
				}
				delete(open, id)
			case 1:
				tell(now)
			default:
				if w.Set(id, now+r.Intn(100)-20) == api.OK {
					open[id] = true
				}
			}
			if w.Len() != len(open) || w.Len() > api.MaxTimers {
				t.Fatalf("seed %d: %d deadlines, not %d", seed, w.Len(), len(open))
			}
		}
		tell(math.MaxInt)
		if len(open) != 0 {
			t.Fatalf("seed %d: %v were not told", seed, open)
		}
	}
}

// Of deadlines without an end, one each tick, each is told at its tick: a wheel goes on for ever.
func TestManyTicks(t *testing.T) {
	w, told := New(), 0
	for now := range 20000 {
		set(t, w, timer{now, now + 200}, timer{-1 - now%50, now + 50})
		l := w.Due(now)
		if now >= 200 && !slices.Equal(l, []int{now - 200}) || now < 200 && len(l) > 0 {
			t.Fatalf("tick %d: %v", now, l)
		}
		told += len(l)
		if want := min(now+1, 200) + min(now+1, 50); w.Len() != want {
			t.Fatalf("tick %d: %d deadlines, not %d", now, w.Len(), want)
		}
	}
	if told != 20000-200 {
		t.Errorf("%d were told", told)
	}
}
