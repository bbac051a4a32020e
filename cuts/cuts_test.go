package cuts

import (
	"math"
	"slices"
	"testing"

	"sallyport/addr"
	"sallyport/api"
)

const top = math.MaxUint64

// last is the greatest number.
var last = api.Addr{Hi: top, Lo: top}

// all is every number.
var all = api.Range{To: last}

func num(n uint64) api.Addr { return api.Addr{Lo: n} }

func rng(from, to uint64) api.Range { return api.Range{From: num(from), To: num(to)} }

func only(a api.Addr) api.Range { return api.Range{From: a, To: a} }

// with answers the box b, with another range of that field.
func with(b api.Box, field int, r api.Range) api.Box {
	b.F[field] = r
	return b
}

// one answers the box that is full but for that field.
func one(field int, r api.Range) api.Box { return with(Full(), field, r) }

// cube answers the box whose ranges are all the same.
func cube(r api.Range) api.Box {
	var b api.Box
	for i := range b.F {
		b.F[i] = r
	}
	return b
}

// stairs answers a box in which each field has a range of its own: 10 to 19, 20 to 29, and so on.
func stairs() api.Box {
	var b api.Box
	for i := range b.F {
		n := uint64(10 * (i + 1))
		b.F[i] = rng(n, n+9)
	}
	return b
}

// noRanges are ranges that have no number.
func noRanges() []api.Range {
	return []api.Range{
		rng(1, 0), rng(9, 8), rng(9, 3), rng(top, 0),
		{From: last}, {From: last, To: api.Addr{Hi: top, Lo: top - 1}},
		{From: api.Addr{Hi: 1}, To: num(top)},
		{From: api.Addr{Hi: 2, Lo: 1}, To: api.Addr{Hi: 1, Lo: 2}},
	}
}

// someRanges are ranges that have numbers.
func someRanges() []api.Range {
	return []api.Range{
		all, rng(0, 0), rng(0, 1), rng(3, 9), rng(7, 7), only(last), only(num(top)),
		{From: num(top), To: api.Addr{Hi: 1}},
		{From: api.Addr{Hi: 1, Lo: 2}, To: api.Addr{Hi: 2, Lo: 1}},
	}
}

// noFields are numbers of no field.
func noFields() []int {
	return []int{-1, api.Fields, api.Fields + 1, -api.Fields, 255, 1 << 32, math.MinInt32, math.MinInt, math.MaxInt}
}

// P8.1

func TestFull(t *testing.T) {
	want := api.Box{F: [api.Fields]api.Range{all, all, all, all, all, all}}
	if Full() != want {
		t.Errorf("Full: %x", Full())
	}
	for i := range api.Fields {
		for _, a := range []api.Addr{{}, num(1), num(top), {Hi: 1}, {Hi: 1 << 63}, {Hi: top}, last} {
			p := api.Point{}
			p.F[i] = a
			if !HasPoint(Full(), p) {
				t.Errorf("the full box has not %x", p)
			}
		}
	}
}

func TestEmpty(t *testing.T) {
	for _, b := range []api.Box{{}, Full(), stairs(), cube(only(last))} {
		if Empty(b) {
			t.Errorf("empty: %x", b)
		}
		for i := range api.Fields {
			for _, r := range someRanges() {
				if Empty(with(b, i, r)) {
					t.Errorf("empty with %x in field %d: %x", r, i, b)
				}
			}
			for _, r := range noRanges() {
				if !Empty(with(b, i, r)) {
					t.Errorf("not empty with %x in field %d: %x", r, i, b)
				}
			}
		}
	}
	for _, r := range noRanges() {
		if !Empty(cube(r)) {
			t.Errorf("not empty: %x", cube(r))
		}
	}
}

func TestHasPoint(t *testing.T) {
	wide := api.Range{From: num(top - 1), To: api.Addr{Hi: 1, Lo: 1}}
	for i := range api.Fields {
		for _, c := range []struct {
			r    api.Range
			a    api.Addr
			want bool
		}{
			{rng(3, 9), num(2), false}, {rng(3, 9), num(3), true}, {rng(3, 9), num(6), true}, {rng(3, 9), num(9), true}, {rng(3, 9), num(10), false},
			{rng(3, 9), api.Addr{Hi: 1, Lo: 6}, false}, {rng(3, 9), api.Addr{Hi: 6}, false},
			{wide, num(top - 2), false}, {wide, num(top - 1), true}, {wide, num(top), true}, {wide, api.Addr{Hi: 1}, true}, {wide, api.Addr{Hi: 1, Lo: 1}, true}, {wide, api.Addr{Hi: 1, Lo: 2}, false}, {wide, num(1), false},
			{rng(7, 7), num(6), false}, {rng(7, 7), num(7), true}, {rng(7, 7), num(8), false},
			{rng(9, 3), num(3), false}, {rng(9, 3), num(6), false}, {rng(9, 3), num(9), false},
			{only(last), last, true}, {only(last), num(top), false}, {only(last), num(0), false},
		} {
			b, p := stairs(), api.Point{}
			for k := range p.F {
				p.F[k] = b.F[k].From
			}
			b.F[i], p.F[i] = c.r, c.a
			if HasPoint(b, p) != c.want {
				t.Errorf("field %d: %x has %x: %v", i, c.r, c.a, !c.want)
			}
		}
	}
}

// P8.2

// wantMeet holds Meet both ways against what is wanted; an empty range means none.
func wantMeet(t *testing.T, a, b, want api.Range) {
	t.Helper()
	wantOK := addr.Compare(want.From, want.To) <= 0
	if !wantOK {
		want = api.Range{}
	}
	if got, ok := Meet(a, b); got != want || ok != wantOK {
		t.Errorf("Meet(%x, %x): %x, %v; want %x, %v", a, b, got, ok, want, wantOK)
	}
	if got, ok := Meet(b, a); got != want || ok != wantOK {
		t.Errorf("Meet(%x, %x): %x, %v; want %x, %v", b, a, got, ok, want, wantOK)
	}
}

func TestMeet(t *testing.T) {
	none := rng(1, 0)
	wantMeet(t, rng(3, 9), rng(5, 20), rng(5, 9))
	wantMeet(t, rng(3, 9), rng(9, 20), rng(9, 9))
	wantMeet(t, rng(3, 9), rng(10, 20), none)
	wantMeet(t, rng(3, 9), rng(11, 20), none)
	wantMeet(t, rng(3, 9), rng(0, 3), rng(3, 3))
	wantMeet(t, rng(3, 9), rng(0, 2), none)
	wantMeet(t, rng(3, 9), rng(4, 8), rng(4, 8))
	wantMeet(t, rng(3, 9), rng(3, 8), rng(3, 8))
	wantMeet(t, rng(3, 9), rng(4, 9), rng(4, 9))
	wantMeet(t, rng(0, 0), rng(0, 0), rng(0, 0)) // it is zero, and true
	wantMeet(t, rng(0, 0), all, rng(0, 0))
	wantMeet(t, only(last), all, only(last))
	wantMeet(t, only(last), rng(0, top), none)
	wantMeet(t, rng(0, top), api.Range{From: api.Addr{Hi: 1}, To: last}, none)
	wantMeet(t, rng(0, top), api.Range{From: num(top), To: last}, rng(top, top))
	wantMeet(t, api.Range{From: api.Addr{Hi: 1, Lo: 9}, To: api.Addr{Hi: 3, Lo: 1}}, api.Range{From: api.Addr{Hi: 2, Lo: 1}, To: api.Addr{Hi: 4}}, api.Range{From: api.Addr{Hi: 2, Lo: 1}, To: api.Addr{Hi: 3, Lo: 1}})
	for _, r := range someRanges() {
		wantMeet(t, r, r, r)
		wantMeet(t, r, all, r)
		for _, n := range noRanges() {
			wantMeet(t, r, n, none)
			wantMeet(t, n, n, none)
		}
	}
}

// wantMeetBox holds MeetBox both ways against what is wanted; an empty box means none.
func wantMeetBox(t *testing.T, a, b, want api.Box) {
	t.Helper()
	wantOK := !Empty(want)
	if !wantOK {
		want = api.Box{}
	}
	if got, ok := MeetBox(a, b); got != want || ok != wantOK {
		t.Errorf("MeetBox(%x, %x): %x, %v; want %x, %v", a, b, got, ok, want, wantOK)
	}
	if got, ok := MeetBox(b, a); got != want || ok != wantOK {
		t.Errorf("MeetBox(%x, %x): %x, %v; want %x, %v", b, a, got, ok, want, wantOK)
	}
}

func TestMeetBox(t *testing.T) {
	none := cube(rng(1, 0))
	for _, b := range []api.Box{{}, Full(), stairs(), cube(only(last))} {
		wantMeetBox(t, b, b, b)
		wantMeetBox(t, b, Full(), b)
	}
	for i := range api.Fields {
		wantMeetBox(t, one(i, rng(3, 9)), one(i, rng(5, 20)), one(i, rng(5, 9)))
		wantMeetBox(t, one(i, rng(3, 4)), one(i, rng(5, 9)), none)
		wantMeetBox(t, one(i, only(last)), one(i, rng(0, top)), none)
		at := stairs().F[i]
		from, to := at.From.Lo, at.To.Lo
		wantMeetBox(t, stairs(), one(i, rng(from+2, to+5)), with(stairs(), i, rng(from+2, to)))
		wantMeetBox(t, stairs(), one(i, rng(to+1, to+5)), none)
		for _, r := range noRanges() {
			wantMeetBox(t, one(i, r), Full(), none)
			wantMeetBox(t, one(i, r), one(i, r), none)
		}
		for k := range api.Fields {
			if k != i {
				wantMeetBox(t, one(i, rng(3, 9)), one(k, rng(3, 9)), with(one(i, rng(3, 9)), k, rng(3, 9)))
				wantMeetBox(t, with(stairs(), i, rng(9, 3)), with(stairs(), k, rng(9, 3)), none)
			}
		}
	}
	wantMeetBox(t, api.Box{}, cube(rng(1, 1)), none)
	wantMeetBox(t, api.Box{}, cube(rng(0, 1)), api.Box{}) // it is zero, and true
}

func TestCovers(t *testing.T) {
	for i := range api.Fields {
		for _, c := range []struct {
			a, b api.Range
			want bool
		}{
			{rng(3, 9), rng(3, 9), true}, {rng(3, 9), rng(4, 9), true}, {rng(3, 9), rng(3, 8), true}, {rng(3, 9), rng(5, 5), true},
			{rng(3, 9), rng(2, 9), false}, {rng(3, 9), rng(3, 10), false}, {rng(3, 9), rng(2, 10), false}, {rng(3, 9), rng(0, 2), false}, {rng(3, 9), rng(10, 12), false}, {rng(3, 9), rng(1, 5), false}, {rng(3, 9), rng(5, 12), false},
			{all, only(last), true}, {only(last), all, false}, {rng(0, top), rng(0, top), true}, {rng(0, top), api.Range{To: api.Addr{Hi: 1}}, false},
			{api.Range{From: num(1), To: last}, all, false}, {api.Range{To: api.Addr{Hi: top, Lo: top - 1}}, all, false},
			{rng(9, 3), rng(9, 3), true}, {rng(3, 9), rng(20, 10), true}, {rng(9, 3), rng(8, 2), true}, // an empty one is covered, wherever it lies
			{rng(9, 3), rng(3, 9), false}, {rng(9, 3), rng(9, 9), false}, {rng(9, 3), rng(5, 5), false}, {rng(9, 3), rng(3, 3), false}, // an empty one covers none that has a point
		} {
			if got := Covers(one(i, c.a), one(i, c.b)); got != c.want {
				t.Errorf("field %d: %x covers %x: %v", i, c.a, c.b, got)
			}
			if got := Covers(with(stairs(), i, c.a), with(stairs(), i, c.b)); got != c.want {
				t.Errorf("field %d of stairs: %x covers %x: %v", i, c.a, c.b, got)
			}
		}
	}
}

// TestCoversOfEmpty has boxes that are empty by another field than that one in which they reach farther.
func TestCoversOfEmpty(t *testing.T) {
	for i := range api.Fields {
		for _, r := range noRanges() {
			empty := one(i, r)
			for _, a := range []api.Box{{}, Full(), stairs(), cube(rng(5, 5)), empty, cube(r)} {
				if !Covers(a, empty) {
					t.Errorf("%x covers not the empty %x", a, empty)
				}
			}
			for _, b := range []api.Box{{}, Full(), stairs(), cube(rng(5, 5))} {
				if Covers(empty, b) {
					t.Errorf("the empty %x covers %x", empty, b)
				}
			}
		}
	}
}

// P8.3

func TestSplit(t *testing.T) {
	for i := range api.Fields {
		for _, b := range []api.Box{{}, Full(), stairs(), with(Full(), (i+1)%api.Fields, rng(9, 3))} { // the last one is empty by another field
			for _, c := range []struct {
				r     api.Range
				at    api.Addr
				upper api.Addr
			}{
				{rng(0, 9), num(3), num(4)}, {rng(0, 9), num(0), num(1)}, {rng(0, 9), num(8), num(9)}, {rng(6, 7), num(6), num(7)},
				{all, num(0), num(1)}, {all, num(top), api.Addr{Hi: 1}}, {all, api.Addr{Hi: 1}, api.Addr{Hi: 1, Lo: 1}}, {all, api.Addr{Hi: top, Lo: top - 1}, last},
				{api.Range{From: num(top), To: api.Addr{Hi: 1}}, num(top), api.Addr{Hi: 1}},
				{api.Range{From: api.Addr{Hi: 1, Lo: 5}, To: api.Addr{Hi: 3, Lo: 2}}, api.Addr{Hi: 2, Lo: 9}, api.Addr{Hi: 2, Lo: 10}},
			} {
				whole := with(b, i, c.r)
				lower, upper, ok := Split(whole, i, c.at)
				wantLower, wantUpper := with(b, i, api.Range{From: c.r.From, To: c.at}), with(b, i, api.Range{From: c.upper, To: c.r.To})
				if !ok || lower != wantLower || upper != wantUpper {
					t.Errorf("Split(%x, %d, %x): %x, %x, %v", whole, i, c.at, lower, upper, ok)
				}
			}
		}
	}
}

// wantNoSplit tells of a Split that makes something.
func wantNoSplit(t *testing.T, b api.Box, field int, at api.Addr) {
	t.Helper()
	if lower, upper, ok := Split(b, field, at); ok || lower != (api.Box{}) || upper != (api.Box{}) {
		t.Errorf("Split(%x, %d, %x): %x, %x, %v", b, field, at, lower, upper, ok)
	}
}

func TestSplitOfWrongFields(t *testing.T) {
	for _, field := range noFields() {
		for _, b := range []api.Box{{}, Full(), stairs(), cube(rng(0, 9))} {
			for _, at := range []api.Addr{{}, num(3), num(15), num(65), last} {
				wantNoSplit(t, b, field, at)
			}
		}
	}
}

func TestSplitOfWrongPlaces(t *testing.T) {
	for i := range api.Fields {
		for _, b := range []api.Box{Full(), stairs(), cube(rng(0, 9))} {
			for _, at := range []uint64{9, 10, 11, top} {
				wantNoSplit(t, with(b, i, rng(0, 9)), i, num(at))
			}
			for _, at := range []uint64{0, 1, 2, 9, 10} {
				wantNoSplit(t, with(b, i, rng(3, 9)), i, num(at))
			}
			wantNoSplit(t, with(b, i, rng(3, 9)), i, api.Addr{Hi: 1, Lo: 5})
			wantNoSplit(t, with(b, i, all), i, last)
			wantNoSplit(t, with(b, i, only(last)), i, last)
			wantNoSplit(t, with(b, i, rng(0, 0)), i, num(0))
			wantNoSplit(t, with(b, i, rng(7, 7)), i, num(6))
			wantNoSplit(t, with(b, i, rng(7, 7)), i, num(7))
			wantNoSplit(t, with(b, i, api.Range{From: api.Addr{Hi: 1, Lo: 5}, To: api.Addr{Hi: 2, Lo: 5}}), i, num(7))
			for _, r := range noRanges() {
				for _, at := range []api.Addr{{}, num(1), num(3), num(5), num(9), r.From, r.To, last} {
					wantNoSplit(t, with(b, i, r), i, at)
				}
			}
		}
	}
}

// P8.4

// entries answers entries of those boxes.
func entries(boxes ...api.Box) []api.Entry {
	var l []api.Entry
	for i, b := range boxes {
		l = append(l, api.Entry{Box: b, Rule: 7 - i})
	}
	return l
}

func wantPoints(t *testing.T, what string, got []api.Addr, want ...api.Addr) {
	t.Helper()
	if !slices.Equal(got, want) {
		t.Errorf("Points of %s: %x; want %x", what, got, want)
	}
}

// of answers the boxes that are full but for that field.
func of(field int, ranges ...api.Range) []api.Box {
	var l []api.Box
	for _, r := range ranges {
		l = append(l, one(field, r))
	}
	return l
}

func TestPoints(t *testing.T) {
	for i := range api.Fields {
		told := func(b api.Range, ranges ...api.Range) []api.Addr {
			return Points(entries(of(i, ranges...)...), one(i, b), i)
		}
		wantPoints(t, "none", told(all))
		wantPoints(t, "a full one", told(all, all))
		wantPoints(t, "one within", told(rng(0, 9), rng(3, 5)), num(2), num(5))
		wantPoints(t, "one number", told(rng(0, 9), rng(3, 3)), num(2), num(3))
		wantPoints(t, "0 alone", told(rng(0, 9), rng(0, 0)), num(0))
		wantPoints(t, "one from 0 on", told(rng(0, 9), rng(0, 5)), num(5))
		wantPoints(t, "one from 1 on", told(rng(0, 9), rng(1, 5)), num(0), num(5))
		wantPoints(t, "the same", told(rng(3, 9), rng(3, 9)))
		wantPoints(t, "one more on both sides", told(rng(3, 9), rng(2, 10)))
		wantPoints(t, "one less on both sides", told(rng(3, 9), rng(4, 8)), num(3), num(8))
		wantPoints(t, "the first number", told(rng(3, 9), rng(3, 3)), num(3))
		wantPoints(t, "the last number", told(rng(3, 9), rng(9, 9)), num(8))
		wantPoints(t, "up to the first number", told(rng(3, 9), rng(0, 3)), num(3))
		wantPoints(t, "from the last number on", told(rng(3, 9), rng(9, 20)), num(8))
		wantPoints(t, "one number of one", told(rng(7, 7), rng(7, 7), rng(0, 7), rng(7, 20)))
		wantPoints(t, "right ahead and behind", told(rng(3, 9), rng(0, 2), rng(10, 20)))
		wantPoints(t, "neighbours", told(rng(0, 9), rng(0, 4), rng(5, 9)), num(4))
		wantPoints(t, "some that fall", told(rng(0, 99), rng(70, 80), rng(50, 60), rng(10, 90), rng(50, 80), rng(50, 60)), num(9), num(49), num(60), num(69), num(80), num(90))
		wantPoints(t, "high ones", told(all, api.Range{From: api.Addr{Hi: 1}, To: api.Addr{Hi: 2}}, rng(5, top), only(last)), num(4), num(top), api.Addr{Hi: 2}, api.Addr{Hi: top, Lo: top - 1})
		wantPoints(t, "numbers by their high half first", told(all, api.Range{From: api.Addr{Hi: 2, Lo: 4}, To: last}, api.Range{To: api.Addr{Hi: 1, Lo: 9}}, rng(0, 6)), num(6), api.Addr{Hi: 1, Lo: 9}, api.Addr{Hi: 2, Lo: 3})
		wantPoints(t, "within the last number", told(only(last), only(last), all))
	}
}

func TestPointsOfWrongFields(t *testing.T) {
	for _, field := range noFields() {
		wantPoints(t, "no field", Points(entries(cube(rng(3, 5)), stairs()), cube(rng(0, 99)), field))
		wantPoints(t, "no field", Points(nil, Full(), field))
	}
}

// TestPointsOfOneField has boxes whose other fields have points, too: these do not count.
func TestPointsOfOneField(t *testing.T) {
	for i := range api.Fields {
		n := uint64(10 * (i + 1))
		wantPoints(t, "stairs", Points(entries(stairs()), Full(), i), num(n-1), num(n+9))
		wantPoints(t, "stairs within stairs", Points(entries(stairs()), stairs(), i))
		wantPoints(t, "stairs within lower stairs", Points(entries(stairs()), with(stairs(), i, rng(n-5, n+5)), i), num(n-1))
	}
}

// TestPointsOfEntriesThatDoNotMeet has entries that would have points, but are empty, or lie elsewhere in another field.
func TestPointsOfEntriesThatDoNotMeet(t *testing.T) {
	for i := range api.Fields {
		for k := range api.Fields {
			if k == i {
				continue
			}
			b := with(one(i, rng(0, 9)), k, rng(20, 29))
			e := func(r api.Range) []api.Entry {
				return entries(with(one(i, rng(3, 5)), k, r), with(one(i, rng(6, 7)), k, rng(25, 25)))
			}
			wantPoints(t, "one ahead", Points(e(rng(10, 19)), b, i), num(5), num(7))
			wantPoints(t, "one behind", Points(e(rng(30, 39)), b, i), num(5), num(7))
			wantPoints(t, "one that ends in it", Points(e(rng(10, 20)), b, i), num(2), num(5), num(7))
			wantPoints(t, "one that begins in it", Points(e(rng(29, 39)), b, i), num(2), num(5), num(7))
			for _, r := range noRanges() {
				wantPoints(t, "an empty one", Points(e(r), b, i), num(5), num(7))
				wantPoints(t, "some within an empty box", Points(e(all), with(b, k, r), i))
			}
		}
		for _, r := range noRanges() {
			wantPoints(t, "one that is empty there", Points(entries(one(i, r)), one(i, rng(0, 9)), i))
			wantPoints(t, "one that is empty there", Points(entries(one(i, r)), Full(), i))
			wantPoints(t, "some within a box that is empty there", Points(entries(Full(), one(i, rng(3, 5)), one(i, r)), one(i, r), i))
		}
	}
}

// TestPointsSharesNothing looks whether an answer is new memory, and what is handed in stays as it is (R3).
func TestPointsSharesNothing(t *testing.T) {
	const field = api.FieldDPort
	room := entries(of(field, rng(3, 5), rng(0, 9), rng(3, 5), rng(6, 7), rng(40, 50))...)
	was := slices.Clone(room)
	l := room[:4]
	first := Points(l, one(field, rng(0, 9)), field)
	second := Points(l, one(field, rng(0, 9)), field)
	for i := range first[:cap(first)] {
		first[:cap(first)][i] = last
	}
	wantPoints(t, "the second answer", second, num(2), num(5), num(7))
	wantPoints(t, "the third answer", Points(l, one(field, rng(0, 9)), field), num(2), num(5), num(7))
	if !slices.Equal(room, was) {
		t.Errorf("the entries are changed: %x", room)
	}
}

// TestPointsOfMany has more entries than any configuration, in a falling order, each twice.
func TestPointsOfMany(t *testing.T) {
	const n = 50000
	var l []api.Entry
	var want []api.Addr
	for i := range uint64(n) {
		r := rng(2*(n-i), 2*(n-i))
		l = append(l, api.Entry{Box: one(api.FieldSrc, r)}, api.Entry{Box: one(api.FieldSrc, r)})
		want = append(want, num(2*i+1), num(2*i+2))
	}
	if got := Points(l, Full(), api.FieldSrc); !slices.Equal(got, want) {
		t.Errorf("%d points of many entries; want %d", len(got), len(want))
	}
}

// The chapter's examples.

func TestExamples(t *testing.T) {
	for i := range api.Fields {
		wantMeet(t, rng(3, 9), rng(5, 20), rng(5, 9))
		wantMeet(t, rng(3, 4), rng(5, 9), rng(1, 0))
		lower, upper, ok := Split(one(i, rng(0, 9)), i, num(3))
		if lower != one(i, rng(0, 3)) || upper != one(i, rng(4, 9)) || !ok {
			t.Errorf("Split of 0 to 9, at 3: %x, %x, %v", lower, upper, ok)
		}
		wantNoSplit(t, one(i, rng(0, 9)), i, num(9))
		wantPoints(t, "3 to 5 and 0 to 9", Points(entries(of(i, rng(3, 5), rng(0, 9))...), one(i, rng(0, 9)), i), num(2), num(5))
	}
}
