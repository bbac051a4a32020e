package flow

import (
	"math"
	"math/rand"
	"slices"
	"testing"

	"sallyport/api"
)

// What the chapter says, said once more, with a list of flows by rising IDs that is gone through for each call.

type model struct{ list []Flow }

// at answers the place of the flow with that ID, -1 if there is none.
func (m *model) at(id int) int {
	return slices.IndexFunc(m.list, func(f Flow) bool { return f.ID == id })
}

func (m *model) find(k api.Key) (Flow, bool, bool) {
	for _, f := range m.list {
		if f.Open == k || f.Back == k {
			return f, f.Back == k, true
		}
	}
	return Flow{}, false, false
}

// first answers the ID of the one that ends first, of those that may be it; 0, if there are none.
func (m *model) first(may func(Flow) bool) int {
	var best Flow
	for _, f := range m.list {
		if may(f) && (best.ID == 0 || f.Ends < best.Ends || f.Ends == best.Ends && f.ID < best.ID) {
			best = f
		}
	}
	return best.ID
}

func (m *model) drop(id int) bool {
	i := m.at(id)
	if i >= 0 {
		m.list = slices.Delete(slices.Clone(m.list), i, i+1)
	}
	return i >= 0
}

func (m *model) add(f Flow) (int, int, api.Errno) {
	_, _, open := m.find(f.Open)
	_, _, back := m.find(f.Back)
	if open || back || f.Open == f.Back {
		return 0, 0, 63
	}
	gone := 0
	if len(m.list) == 48 {
		gone = m.first(func(f Flow) bool { return f.State == 0 || f.State == 2 })
		if gone == 0 {
			return 0, 0, 120
		}
		m.drop(gone)
	}
	f.ID = 1
	for m.at(f.ID) >= 0 {
		f.ID++
	}
	m.list = slices.Insert(slices.Clone(m.list), f.ID-1, f)
	return f.ID, gone, 0
}

func (m *model) set(id, state, ends int) bool {
	i := m.at(id)
	if i >= 0 {
		m.list[i].State, m.list[i].Ends = state, ends
	}
	return i >= 0
}

func (m *model) due(now int) []int {
	var ids []int
	for {
		id := m.first(func(f Flow) bool { return f.Ends <= now })
		if id == 0 {
			return ids
		}
		m.drop(id)
		ids = append(ids, id)
	}
}

// call is one call of a row.
type call struct {
	kind        byte // a: Add, s: Set, d: Drop, t: Due
	flow        Flow // of Add
	id          int
	state, ends int
}

// tally counts what became of calls.
type tally struct{ added, went, twice, full, set, dropped, due, not int }

func (c *tally) countAdd(gone int, e api.Errno) {
	switch {
	case e == api.ErrTwice:
		c.twice++
	case e == api.ErrFull:
		c.full++
	case gone != 0:
		c.went++
	default:
		c.added++
	}
}

func (c *tally) count(ok bool, which *int) {
	if ok {
		*which++
	} else {
		c.not++
	}
}

func (c *tally) wantEach(t *testing.T, least int) {
	t.Helper()
	for _, n := range []int{c.added, c.went, c.twice, c.full, c.set, c.dropped, c.due, c.not} {
		if n < least {
			t.Errorf("%+v: too few of some", *c)
		}
	}
}

// wantCall checks one call.
func wantCall(t *testing.T, x *Table, m *model, c call, n *tally) {
	t.Helper()
	switch c.kind {
	case 'a':
		id, gone, e := x.Add(c.flow)
		wantID, wantGone, want := m.add(c.flow)
		if id != wantID || gone != wantGone || e != want {
			t.Fatalf("Add(%v): %d, %d, %d, not %d, %d, %d", c.flow, id, gone, e, wantID, wantGone, want)
		}
		n.countAdd(gone, e)
	case 's':
		ok := x.Set(c.id, c.state, c.ends)
		if ok != m.set(c.id, c.state, c.ends) {
			t.Fatalf("Set(%d, %d, %d): %v", c.id, c.state, c.ends, ok)
		}
		n.count(ok, &n.set)
	case 'd':
		ok := x.Drop(c.id)
		if ok != m.drop(c.id) {
			t.Fatalf("Drop(%d): %v", c.id, ok)
		}
		n.count(ok, &n.dropped)
	case 't':
		got, want := x.Due(c.ends), m.due(c.ends)
		if !slices.Equal(got, want) {
			t.Fatalf("Due(%d): %v, not %v", c.ends, got, want)
		}
		n.count(len(got) > 0, &n.due)
	}
	if got := x.List(); !slices.Equal(got, m.list) {
		t.Fatalf("behind %c: List: %v, not %v", c.kind, got, m.list)
	}
}

// wantSameKey checks what can be told of one key.
func wantSameKey(t *testing.T, x *Table, m *model, k api.Key) {
	t.Helper()
	f, back, ok := x.Find(k)
	wantF, wantBack, wantOK := m.find(k)
	if f != wantF || back != wantBack || ok != wantOK || x.Taken(k) != wantOK {
		t.Fatalf("Find(%v): %v, %v, %v, not %v, %v, %v; Taken %v", k, f, back, ok, wantF, wantBack, wantOK, x.Taken(k))
	}
}

// wantSameID checks what can be told of one ID.
func wantSameID(t *testing.T, x *Table, m *model, id int) {
	t.Helper()
	f, ok := x.Get(id)
	want := Flow{}
	i := m.at(id)
	if i >= 0 {
		want = m.list[i]
	}
	if f != want || ok != (i >= 0) {
		t.Fatalf("Get(%d): %v, %v, not %v", id, f, ok, want)
	}
}

// fewCalls are calls of four keys, three IDs, and a few states and times.
func fewCalls() []call {
	var l []call
	for open := range 4 {
		for by := range 3 {
			f := Flow{Open: key(open), Back: key((open + by) % 4), State: by, Ends: open % 2}
			l = append(l, call{kind: 'a', flow: f})
		}
	}
	for id := 1; id <= 3; id++ {
		l = append(l, call{kind: 'd', id: id}, call{kind: 's', id: id, state: id % 3, ends: 1})
	}
	return append(l, call{kind: 't', ends: 0}, call{kind: 't', ends: 1})
}

// besides answers a table with so many flows, and what tells of it: just the first one may go.
func besides(t *testing.T, others int) (*Table, *model) {
	t.Helper()
	x, m := New(), &model{}
	for i := range others {
		f := plain(100+i, min(i, Answered), 1)
		wantAdd(t, x, f, i+1, 0)
		m.add(f)
	}
	return x, m
}

// wantRow checks the calls of a row, which is told by a number.
func wantRow(t *testing.T, x *Table, m *model, row int, calls []call, n *tally) {
	t.Helper()
	for ; row > 0; row /= len(calls) {
		wantCall(t, x, m, calls[row%len(calls)], n)
	}
	for k := range 4 {
		wantSameKey(t, x, m, key(k))
	}
}

// All rows of four calls of a few keys, IDs, states and times; and all of three with room for one more flow alone.
func TestAllShortRows(t *testing.T) {
	calls, n := fewCalls(), tally{}
	rows := len(calls) * len(calls) * len(calls)
	for row := range rows * len(calls) {
		wantRow(t, New(), &model{}, row, calls, &n)
	}
	for row := range rows {
		x, m := besides(t, api.MaxFlows-1)
		wantRow(t, x, m, row, calls, &n)
	}
	n.wantEach(t, 5)
}

// some answers one of all kinds of numbers, but mostly of the few ones from 0 on.
func some(r *rand.Rand, few int) int {
	switch r.Intn(200) {
	case 0:
		return numbers()[r.Intn(len(numbers()))]
	case 1:
		return int(r.Uint64()) >> r.Intn(64)
	}
	return r.Intn(few)
}

// someKey answers one of so many keys, or one of these turned.
func someKey(r *rand.Rand, keys int) api.Key {
	k := key(r.Intn(keys))
	if r.Intn(2) == 0 {
		return Turned(k)
	}
	return k
}

// someState answers a state: mostly Answered, if busy is so.
func someState(r *rand.Rand, busy bool) int {
	if busy && r.Intn(8) > 0 {
		return Answered
	}
	return some(r, 3)
}

// someCall answers a call: mostly an Add.
func someCall(r *rand.Rand, busy bool, keys, times int) call {
	c := call{kind: 'a', id: some(r, api.MaxFlows+2), state: someState(r, busy), ends: some(r, times)}
	c.flow = Flow{ID: some(r, 60), Open: someKey(r, keys), Back: someKey(r, keys), In: some(r, 4), Out: some(r, 4), Rule: some(r, 9) - 1, State: c.state, Ends: c.ends}
	if r.Intn(2) == 0 {
		c.flow.Back = Turned(c.flow.Open)
	}
	switch r.Intn(40) {
	case 0, 1, 2:
		c.kind = 'd'
	case 3, 4, 5, 6, 7, 8, 9, 10:
		c.kind = 's'
	case 11:
		c.kind, c.ends = 't', some(r, 1+times/8)
	}
	return c
}

func TestAgainstTheModel(t *testing.T) {
	var n tally
	for seed := range 300 {
		r := rand.New(rand.NewSource(int64(seed)))
		x, m := New(), &model{}
		busy, keys, times := seed%2 == 0, 2+r.Intn(30), 1+r.Intn(60)
		if seed%4 < 3 {
			keys += 200
		}
		for range 500 {
			c := someCall(r, busy, keys, times)
			wantCall(t, x, m, c, &n)
			wantSameKey(t, x, m, c.flow.Open)
			wantSameKey(t, x, m, c.flow.Back)
			wantSameKey(t, x, m, someKey(r, keys))
			wantSameID(t, x, m, c.id)
		}
		for i := range keys {
			wantSameKey(t, x, m, key(i))
			wantSameKey(t, x, m, Turned(key(i)))
		}
		wantLean(t, x, len(m.list))
		for _, now := range []int{times / 4, times / 2, times, math.MaxInt} {
			wantCall(t, x, m, call{kind: 't', ends: now}, &n)
		}
		wantAll(t, x)
	}
	n.wantEach(t, 1000)
}

// The same calls have the same answers, however often they are asked: a map's order is not to be seen.
func TestSameCallsSameAnswers(t *testing.T) {
	for seed := range 100 {
		var first []Flow
		for again := range 4 {
			r := rand.New(rand.NewSource(int64(seed)))
			x, told := New(), []Flow(nil)
			for range 300 {
				c := someCall(r, seed%2 == 0, 200, 3)
				id, gone, e := x.Add(c.flow)
				told = append(told, Flow{ID: id, Rule: gone, State: int(e)})
				x.Set(c.id, c.state, c.ends)
			}
			told = append(told, x.List()...)
			for _, id := range x.Due(2) {
				told = append(told, Flow{ID: id})
			}
			if again == 0 {
				first = told
			} else if !slices.Equal(first, told) {
				t.Fatalf("seed %d: %v, then %v", seed, first, told)
			}
		}
	}
}

// P14.5, W6

// wantApart checks that there are no more flows than may be, by rising IDs, and that no key belongs to two of them, or to one twice.
func wantApart(t *testing.T, l []Flow) {
	t.Helper()
	if len(l) > api.MaxFlows {
		t.Fatalf("%d flows", len(l))
	}
	keys, last := map[api.Key]int{}, 0
	for _, f := range l {
		if f.ID <= last || f.ID > api.MaxFlows {
			t.Fatalf("the ID %d behind %d", f.ID, last)
		}
		last = f.ID
		keys[f.Open]++
		keys[f.Back]++
	}
	if len(keys) != 2*len(l) {
		t.Fatalf("%d keys of %d flows", len(keys), len(l))
	}
}

// wantOf checks that each flow that was there is there, as it was; but one with that ID may not be. It answers whether that one went, or another came in its place.
func wantOf(t *testing.T, had, has []Flow, gone int) bool {
	t.Helper()
	went := false
	for _, f := range had {
		stays := slices.Contains(has, f)
		if !stays && f.ID != gone {
			t.Fatalf("%v went, or was changed", f)
		}
		went = went || !stays
	}
	return went
}

// An Add takes one flow at most, which it tells, and none that is Answered; a Set none.
func TestWhatFollows(t *testing.T) {
	var n tally
	for seed := range 100 {
		r := rand.New(rand.NewSource(int64(seed)))
		x, busy, keys := New(), seed%2 == 0, 60+r.Intn(200)
		for range 300 {
			c := someCall(r, busy, keys, 50)
			had := x.List()
			switch c.kind {
			case 'a':
				before, ok := Flow{}, false
				id, gone, e := x.Add(c.flow)
				if i := slices.IndexFunc(had, func(f Flow) bool { return f.ID == gone }); i >= 0 {
					before, ok = had[i], true
				}
				if ok != (gone != 0) || ok && (len(had) != api.MaxFlows || before.State == Answered) {
					t.Fatalf("%v went, of %d flows", before, len(had))
				}
				if wantOf(t, had, x.List(), gone) != ok {
					t.Fatalf("%v is told, but stays", before)
				}
				if got, _ := x.Get(id); e == api.OK && got != named(id, c.flow) {
					t.Fatalf("%v came as %v", c.flow, got)
				}
				n.countAdd(gone, e)
			case 's':
				n.count(x.Set(c.id, c.state, c.ends), &n.set)
				wantOf(t, had, x.List(), c.id)
				if len(x.List()) != len(had) {
					t.Fatalf("Set made %d flows of %d", len(x.List()), len(had))
				}
			case 'd':
				n.count(x.Drop(c.id), &n.dropped)
				wantOf(t, had, x.List(), c.id)
			case 't':
				n.count(len(x.Due(c.ends)) > 0, &n.due)
			}
			wantApart(t, x.List())
		}
	}
	n.wantEach(t, 100)
}
