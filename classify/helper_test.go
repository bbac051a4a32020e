package classify

import (
	"math"
	"slices"
	"testing"

	"sallyport/api"
	"sallyport/cuts"
)

const top = math.MaxUint64

// last is the greatest number.
var last = api.Addr{Hi: top, Lo: top}

func num(n int) api.Addr { return api.Addr{Lo: uint64(n)} }

func rng(from, to int) api.Range { return api.Range{From: num(from), To: num(to)} }

// upFrom answers all numbers that are at least from.
func upFrom(from int) api.Range { return api.Range{From: num(from), To: last} }

// with answers the entry e, with another range of that field.
func with(e api.Entry, field int, r api.Range) api.Entry {
	e.Box.F[field] = r
	return e
}

// full answers an entry that has every point.
func full(rule int) api.Entry { return api.Entry{Box: cuts.Full(), Rule: rule} }

// one answers an entry that is full but for that field.
func one(field int, r api.Range, rule int) api.Entry { return with(full(rule), field, r) }

// singles answers n entries that are full but for that field: there they have one number each, 0, 1, and so on. Their rules are 100, 101, and so on.
func singles(field, n int) []api.Entry {
	var l []api.Entry
	for i := range n {
		l = append(l, one(field, rng(i, i), 100+i))
	}
	return l
}

// stairs answers as many entries as singles does, but the last one has all numbers from its own on.
// Then of n of them n - 1 points lie within, and so it is with each part of them: a tree of 8 * 2^k has 2^k leaves of 8.
func stairs(field, n int) []api.Entry {
	l := singles(field, n)
	l[n-1].Box.F[field] = upFrom(n - 1)
	return l
}

// at answers the point that has n in that field, and 0 in all others.
func at(field, n int) api.Point {
	var p api.Point
	p.F[field] = num(n)
	return p
}

// joined answers all of the lists, one behind the other.
func joined(lists ...[]api.Entry) []api.Entry { return slices.Concat(lists...) }

// scan answers the rule of the first of l that has p, or -1.
func scan(l []api.Entry, p api.Point) int {
	for _, e := range l {
		if cuts.HasPoint(e.Box, p) {
			return e.Rule
		}
	}
	return -1
}

// build answers the tree of l, which may not be too complex.
func build(t *testing.T, l []api.Entry) *Tree {
	t.Helper()
	x, e := Build(l)
	if e != api.OK || x == nil {
		t.Fatalf("Build of %d: %v, %d", len(l), x, e)
	}
	return x
}

// wantComplex tells whether the tree of l is too complex.
func wantComplex(t *testing.T, l []api.Entry) {
	t.Helper()
	if x, e := Build(l); x != nil || e != api.ErrComplex {
		t.Errorf("Build of %d: %v, %d; want nil, ErrComplex", len(l), x, e)
	}
}

// wantSize checks how many nodes and entries a tree has.
func wantSize(t *testing.T, x *Tree, nodes, entries int) {
	t.Helper()
	if x.Nodes() != nodes || x.Len() != entries {
		t.Errorf("%d nodes, %d entries; want %d, %d", x.Nodes(), x.Len(), nodes, entries)
	}
}

// wantFind checks what a tree finds of p.
func wantFind(t *testing.T, x *Tree, p api.Point, rule, visited, compared int) {
	t.Helper()
	if r, v, c := x.Find(p); r != rule || v != visited || c != compared {
		t.Errorf("Find(%x): %d, %d, %d; want %d, %d, %d", p, r, v, c, rule, visited, compared)
	}
}

// corners answers points at which a box of l begins or ends, and just beside: of each field by itself, the others at 0 or as the box has them.
func corners(l []api.Entry) []api.Point {
	points := []api.Point{{}, {F: [api.Fields]api.Addr{last, last, last, last, last, last}}}
	for _, e := range l {
		var first api.Point
		for i, r := range e.Box.F {
			first.F[i] = r.From
		}
		for i, r := range e.Box.F {
			for _, a := range []api.Addr{r.From, r.To, {Hi: r.From.Hi, Lo: r.From.Lo - 1}, {Hi: r.To.Hi, Lo: r.To.Lo + 1}} {
				p, q := first, api.Point{}
				p.F[i], q.F[i] = a, a
				points = append(points, p, q)
			}
		}
	}
	return points
}

// wantSame tells where two trees differ, in what they tell of themselves and of points of l.
func wantSame(t *testing.T, got, want *Tree, l []api.Entry) {
	t.Helper()
	wantSize(t, got, want.Nodes(), want.Len())
	for _, p := range corners(l) {
		r, v, c := want.Find(p)
		wantFind(t, got, p, r, v, c)
		if t.Failed() {
			return
		}
	}
}
