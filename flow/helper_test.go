package flow

import (
	"math"
	"slices"
	"testing"

	"sallyport/addr"
	"sallyport/api"
)

// key answers keys of which any two differ, and none is another one turned.
func key(n int) api.Key {
	return api.Key{Proto: api.ProtoTCP, Src: addr.Of4(0x0a000001), Dst: addr.Of4(0x08080808), SPort: n, DPort: -1}
}

// plain answers a flow of which both keys are those of n, and all else is told by n.
func plain(n, state, ends int) Flow {
	return Flow{Open: key(n), Back: Turned(key(n)), In: n % 3, Out: n % 5, Rule: n - 1, State: state, Ends: ends}
}

// named answers f with that ID.
func named(id int, f Flow) Flow {
	f.ID = id
	return f
}

// wantAdd checks what an Add answers.
func wantAdd(t *testing.T, x *Table, f Flow, id, gone int) {
	t.Helper()
	if gotID, gotGone, e := x.Add(f); gotID != id || gotGone != gone || e != api.OK {
		t.Errorf("Add(%v): %d, %d, %d; want %d, %d, OK", f, gotID, gotGone, e, id, gone)
	}
}

// wantNot checks that an Add answers that error, and changes nothing.
func wantNot(t *testing.T, x *Table, f Flow, want api.Errno) {
	t.Helper()
	all := x.List()
	if id, gone, e := x.Add(f); id != 0 || gone != 0 || e != want {
		t.Errorf("Add(%v): %d, %d, %d; want 0, 0, %d", f, id, gone, e, want)
	}
	wantAll(t, x, all...)
}

// wantFind checks what Find and Taken answer of a key that is taken.
func wantFind(t *testing.T, x *Table, k api.Key, f Flow, back bool) {
	t.Helper()
	if got, gotBack, ok := x.Find(k); got != f || gotBack != back || !ok {
		t.Errorf("Find(%v): %v, %v, %v; want %v, %v, true", k, got, gotBack, ok, f, back)
	}
	if !x.Taken(k) {
		t.Errorf("Taken(%v): false", k)
	}
}

// wantFree checks what Find and Taken answer of a key that nobody has.
func wantFree(t *testing.T, x *Table, keys ...api.Key) {
	t.Helper()
	for _, k := range keys {
		if got, back, ok := x.Find(k); got != (Flow{}) || back || ok {
			t.Errorf("Find(%v): %v, %v, %v; want none", k, got, back, ok)
		}
		if x.Taken(k) {
			t.Errorf("Taken(%v): true", k)
		}
	}
}

// wantGone checks that there are no flows with these IDs.
func wantGone(t *testing.T, x *Table, ids ...int) {
	t.Helper()
	for _, id := range ids {
		if got, ok := x.Get(id); got != (Flow{}) || ok {
			t.Errorf("Get(%d): %v, %v; want none", id, got, ok)
		}
	}
}

// wantAll checks that there are these flows, by rising IDs, and no others, by each way in which they can be asked for.
func wantAll(t *testing.T, x *Table, l ...Flow) {
	t.Helper()
	if got := x.List(); !slices.Equal(got, l) {
		t.Errorf("List: %v; want %v", got, l)
	}
	has := map[int]int{}
	for _, f := range l {
		has[f.ID]++
		if got, ok := x.Get(f.ID); got != f || !ok {
			t.Errorf("Get(%d): %v, %v; want %v", f.ID, got, ok, f)
		}
		wantFind(t, x, f.Open, f, false)
		wantFind(t, x, f.Back, f, true)
	}
	for _, id := range append(span(0, api.MaxFlows+2), numbers()...) {
		if has[id] == 0 {
			wantGone(t, x, id)
		}
	}
	wantLean(t, x, len(l))
}

// wantLean checks that no more is kept than so many flows need.
func wantLean(t *testing.T, x *Table, flows int) {
	t.Helper()
	if len(x.keys) != 2*flows || len(x.flows.of) != flows || x.flows.Len() != flows {
		t.Errorf("of %d flows %d keys, %d flows, %d deadlines are kept", flows, len(x.keys), len(x.flows.of), x.flows.Len())
	}
}

// wantDue checks what Due answers.
func wantDue(t *testing.T, x *Table, now int, want ...int) {
	t.Helper()
	if got := x.Due(now); !slices.Equal(got, want) {
		t.Errorf("Due(%d): %v; want %v", now, got, want)
	}
}

func wantSet(t *testing.T, x *Table, id, state, ends int, want bool) {
	t.Helper()
	if got := x.Set(id, state, ends); got != want {
		t.Errorf("Set(%d, %d, %d): %v", id, state, ends, got)
	}
}

func wantDrop(t *testing.T, x *Table, id int, want bool) {
	t.Helper()
	if got := x.Drop(id); got != want {
		t.Errorf("Drop(%d): %v", id, got)
	}
}

// with answers a table with these flows, with the IDs from 1 on.
func with(t *testing.T, l ...Flow) *Table {
	t.Helper()
	x := New()
	for i, f := range l {
		wantAdd(t, x, f, i+1, 0)
	}
	return x
}

// filled answers a table with MaxFlows flows of that state: the flow with the ID n is plain(n), and ends at n.
func filled(t *testing.T, state int) *Table {
	t.Helper()
	x := New()
	for n := 1; n <= api.MaxFlows; n++ {
		wantAdd(t, x, plain(n, state, n), n, 0)
	}
	return x
}

// span answers the numbers from from to to, these two with it.
func span(from, to int) []int {
	var l []int
	for i := from; i <= to; i++ {
		l = append(l, i)
	}
	return l
}

// numbers are IDs, states and times of all kinds, from the least one to the greatest one.
func numbers() []int {
	return []int{math.MinInt, math.MinInt + 1, -1 << 32, -2, -1, 0, 1, 2, 3, 47, 48, 49, 256, 1 << 32, math.MaxInt - 1, math.MaxInt}
}
