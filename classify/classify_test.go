package classify

import (
	"math"
	"math/rand"
	"slices"
	"testing"

	"sallyport/api"
	"sallyport/cuts"
)

// P9.1

func TestSmallTreesAreOneLeaf(t *testing.T) {
	wantSize(t, build(t, nil), 1, 0)
	wantSize(t, build(t, []api.Entry{}), 1, 0)
	for n := 1; n <= api.LeafCap; n++ {
		wantSize(t, build(t, singles(api.FieldDPort, n)), 1, n)
	}
	for field := range api.Fields {
		wantSize(t, build(t, singles(field, 8)), 1, 8)
		wantSize(t, build(t, singles(field, 9)), 3, 9)
	}
	wantSize(t, build(t, stairs(api.FieldSrc, 16)), 3, 16)
	wantSize(t, build(t, stairs(api.FieldSrc, 17)), 5, 17)
}

// TestWhatIsCoveredGoes holds rule 1 of the chapter: what is behind the first one that covers the box, and what does not meet it, is not there for a leaf, nor for a cut.
func TestWhatIsCoveredGoes(t *testing.T) {
	nine, many := singles(api.FieldDPort, 9), singles(api.FieldSPort, 30)
	x := build(t, joined([]api.Entry{full(5)}, nine))
	wantSize(t, x, 1, 10)
	wantFind(t, x, at(api.FieldDPort, 4), 5, 1, 1)

	x = build(t, joined(nine[:7], []api.Entry{full(5)}, many))
	wantSize(t, x, 1, 38)
	wantFind(t, x, at(api.FieldDPort, 6), 106, 1, 7)
	wantFind(t, x, at(api.FieldDPort, 7), 5, 1, 8)

	// The 30 have more points, but none of them is left: the 9 are cut, behind 4.
	x = build(t, joined(nine, []api.Entry{full(5)}, many))
	wantSize(t, x, 3, 40)
	wantFind(t, x, at(api.FieldDPort, 4), 104, 2, 5)
	wantFind(t, x, at(api.FieldDPort, 5), 105, 2, 1)
	wantFind(t, x, at(api.FieldDPort, 9), 5, 2, 5)

	// An entry that covers a child, but not the root: what is behind it goes there alone.
	low := one(api.FieldDPort, rng(0, 4), 7)
	x = build(t, joined([]api.Entry{low}, nine, many[:4]))
	wantSize(t, x, 3, 14)
	wantFind(t, x, at(api.FieldDPort, 4), 7, 2, 1)
	wantFind(t, x, at(api.FieldDPort, 5), 105, 2, 1)
	wantFind(t, x, at(api.FieldDPort, 9), 100, 2, 5)

	// One that covers just as much, and one that covers one number less.
	wantSize(t, build(t, joined([]api.Entry{one(api.FieldZones, api.Range{To: last}, 1)}, nine)), 1, 10)
	wantSize(t, build(t, joined([]api.Entry{one(api.FieldZones, upFrom(1), 1)}, nine)), 3, 10)
	wantSize(t, build(t, joined([]api.Entry{one(api.FieldDst, api.Range{To: api.Addr{Hi: top, Lo: top - 1}}, 1)}, nine)), 3, 10)
}

func TestEmptyBoxesGo(t *testing.T) {
	for field := range api.Fields {
		var l []api.Entry
		for i := range 50 {
			l = append(l, with(one(api.FieldSPort, rng(i, i), i), field, rng(9, 8)))
		}
		x := build(t, l)
		wantSize(t, x, 1, 50)
		wantFind(t, x, at(field, 8), -1, 1, 0)
		x = build(t, joined(l, singles(api.FieldDst, 9), l))
		wantSize(t, x, 3, 109)
		wantFind(t, x, at(api.FieldDst, 4), 104, 2, 5)
	}
}

// TestCutIsInTheMiddle holds rule 4: of n points the one number n / 2, counted from 0.
func TestCutIsInTheMiddle(t *testing.T) {
	for field := range api.Fields {
		x := build(t, singles(field, 9)) // 9 points, 0 to 8
		wantFind(t, x, at(field, 4), 104, 2, 5)
		wantFind(t, x, at(field, 5), 105, 2, 1)
		wantFind(t, x, at(field, 9), -1, 2, 4)
		x = build(t, singles(field, 10)) // 10 points, 0 to 9
		wantFind(t, x, at(field, 5), 105, 2, 6)
		wantFind(t, x, at(field, 6), 106, 2, 1)
		x = build(t, stairs(field, 9)) // 8 points, 0 to 7
		wantFind(t, x, at(field, 4), 104, 2, 5)
		wantFind(t, x, at(field, 5), 105, 2, 1)
		x = build(t, stairs(field, 10)) // 9 points, 0 to 8
		wantFind(t, x, at(field, 4), 104, 2, 5)
		wantFind(t, x, at(field, 5), 105, 2, 1)
	}
}

// TestOnePoint cuts where there is one point alone: at its number 0.
func TestOnePoint(t *testing.T) {
	for field := range api.Fields {
		var l []api.Entry
		for i := range 20 {
			l = append(l, one(field, upFrom(7), i))
		}
		x := build(t, l)
		wantSize(t, x, 3, 20)
		wantFind(t, x, at(field, 6), -1, 2, 0)
		wantFind(t, x, at(field, 7), 0, 2, 1)
	}
}

// TestFieldWithTheMostPoints cuts in a field that has more points than each other, and in the first one of two that have the same.
func TestFieldWithTheMostPoints(t *testing.T) {
	for first := range api.Fields {
		for second := range api.Fields {
			if first == second {
				continue
			}
			var l []api.Entry // first has the points 0 to 8; second too, but the other way round
			for i := range 9 {
				l = append(l, with(one(first, rng(i, i), i), second, rng(8-i, 8-i)))
			}
			p := at(first, 4)
			p.F[second] = num(4)
			compared := 5 // the lower box of first has the entries 0 to 4; that of second 4 to 8
			if second < first {
				compared = 1
			}
			wantFind(t, build(t, l), p, 4, 2, compared)

			l[0].Box.F[second] = upFrom(8) // second has 0 to 7 alone
			wantFind(t, build(t, l), p, 4, 2, 5)
		}
	}
}

// TestNodeCap: a tree of 2048 stairs has 256 leaves of 8, the most that there may be with NodeCap nodes.
func TestNodeCap(t *testing.T) {
	for _, field := range []int{api.FieldZones, api.FieldDst} {
		l := stairs(field, 2048)
		x := build(t, l)
		wantSize(t, x, 511, 2048)
		for _, n := range []int{0, 7, 8, 1023, 1024, 2040, 2047} {
			wantFind(t, x, at(field, n), 100+n, 9, n%8+1)
		}
		wantFind(t, x, at(field, math.MaxInt), 100+2047, 9, 8)
		wantComplex(t, stairs(field, 2049))
		wantComplex(t, stairs(field, 5000))
	}
}

// nest answers entries whose tree goes down to the point of noughts, as a path from which leaves alone go aside: for each field one that has all but its 0, and behind these n boxes around the point, from 0 to 1, 2, and so on, in the last field never above most.
// So there is a point at each number below n in each field, and below most in the last; and each cut behind the number k halves one field's, and leaves 0 to k of it.
func nest(n, most int) []api.Entry {
	var l []api.Entry
	for field := range api.Fields {
		l = append(l, one(field, upFrom(1), 10+field))
	}
	for k := 1; k <= n; k++ {
		e := full(100 + k)
		for field := range api.Fields {
			e.Box.F[field] = rng(0, k)
		}
		e.Box.F[api.FieldDst].To = num(min(k, most))
		l = append(l, e)
	}
	return l
}

// TestMaxDepth: with 31 points a field has 15, 7, 3, 1 left behind four cuts; with 15, behind three. When each has one, there are less than nine entries left.
func TestMaxDepth(t *testing.T) {
	x := build(t, nest(30, 14)) // 5 * 4 + 3 cuts
	wantSize(t, x, 2*23+1, 36)
	wantFind(t, x, api.Point{}, 101, api.MaxDepth, 7)
	wantComplex(t, nest(30, 30)) // 6 * 4 cuts: the node of the depth 24 has nine entries
	wantFind(t, build(t, nest(14, 14)), api.Point{}, 101, 1+6*3, 7)
}

// P9.2

func TestFind(t *testing.T) {
	x := build(t, nil)
	wantFind(t, x, api.Point{}, -1, 1, 0)
	wantFind(t, x, at(api.FieldDst, 7), -1, 1, 0)

	x = build(t, singles(api.FieldSrc, 8))
	for i := range 8 {
		wantFind(t, x, at(api.FieldSrc, i), 100+i, 1, i+1)
	}
	wantFind(t, x, at(api.FieldSrc, 8), -1, 1, 8)

	// Of two that have a point the first one is found, whatever their rules.
	x = build(t, []api.Entry{one(api.FieldProto, rng(3, 9), 7), one(api.FieldProto, rng(5, 20), 2), one(api.FieldProto, rng(0, 0), 2)})
	wantFind(t, x, at(api.FieldProto, 2), -1, 1, 3)
	wantFind(t, x, at(api.FieldProto, 3), 7, 1, 1)
	wantFind(t, x, at(api.FieldProto, 9), 7, 1, 1)
	wantFind(t, x, at(api.FieldProto, 10), 2, 1, 2)
	wantFind(t, x, at(api.FieldProto, 20), 2, 1, 2)
	wantFind(t, x, at(api.FieldProto, 21), -1, 1, 3)
	wantFind(t, x, at(api.FieldProto, 0), 2, 1, 3)
}

func TestFindAnswersAnyRule(t *testing.T) {
	rules := []int{0, -1, -7, 5, 5, math.MaxInt, math.MinInt, 47, 1 << 40, 3}
	var l []api.Entry
	for i, r := range rules {
		l = append(l, one(api.FieldDPort, rng(i, i), r))
	}
	x := build(t, l) // 10 points: the cut is behind 5
	for i, r := range rules {
		wantFind(t, x, at(api.FieldDPort, i), r, 2, i%6+1)
	}
}

// TestWideNumbers cuts over the border of the two halves of a number, at 0, and at the greatest one.
func TestWideNumbers(t *testing.T) {
	edges := []api.Addr{{}, {Lo: 1}, {Lo: 0xffff0a000001}, {Lo: top - 1}, {Lo: top}, {Hi: 1}, {Hi: 1, Lo: 1}, {Hi: 1 << 63}, {Hi: top, Lo: top - 1}, last}
	for field := range api.Fields {
		var l []api.Entry
		for i, a := range edges {
			l = append(l, one(field, api.Range{From: a, To: a}, i))
		}
		x := build(t, l)
		for i, a := range edges {
			var p api.Point
			p.F[field] = a
			if r, v, _ := x.Find(p); r != i || v < 2 {
				t.Errorf("field %d: %x: %d, %d", field, a, r, v)
			}
		}
		for _, a := range []api.Addr{{Lo: 2}, {Lo: top - 2}, {Hi: 1, Lo: 2}, {Hi: top, Lo: top - 2}, {Hi: top}} {
			var p api.Point
			p.F[field] = a
			if r, _, _ := x.Find(p); r != -1 {
				t.Errorf("field %d: %x: %d", field, a, r)
			}
		}
	}
}

// P9.3

func TestPutAndTakeWrongPlaces(t *testing.T) {
	for _, l := range [][]api.Entry{nil, singles(api.FieldDPort, 3), singles(api.FieldDPort, 20)} {
		x, n := build(t, l), len(l)
		for _, i := range []int{-1, n + 1, n + 2, -n - 1, math.MinInt, math.MaxInt, 1 << 32, -1 << 32} {
			if e := x.Put(i, full(1)); e != api.ErrArg {
				t.Errorf("Put(%d) of %d: %d", i, n, e)
			}
		}
		for _, i := range []int{-1, n, n + 1, -n - 1, math.MinInt, math.MaxInt, 1 << 32, -1 << 32} {
			if e := x.Take(i); e != api.ErrArg {
				t.Errorf("Take(%d) of %d: %d", i, n, e)
			}
		}
		wantSame(t, x, build(t, l), l)
	}
	x := build(t, stairs(api.FieldDPort, 2048))
	if e := x.Put(2049, one(api.FieldSPort, rng(3, 4), 1)); e != api.ErrArg {
		t.Errorf("Put at no place of what would be too complex: %d", e)
	}
}

func TestPutAtEachPlace(t *testing.T) {
	for _, n := range []int{0, 1, 7, 8, 9, 20} {
		l := singles(api.FieldDPort, n)
		for i := range n + 1 {
			x, e := build(t, l), one(api.FieldDPort, rng(0, 5), 7)
			if errno := x.Put(i, e); errno != api.OK {
				t.Errorf("Put(%d) of %d: %d", i, n, errno)
			}
			changed := joined(l[:i], []api.Entry{e}, l[i:])
			wantSame(t, x, build(t, changed), changed)
		}
	}
}

func TestTakeAtEachPlace(t *testing.T) {
	for _, n := range []int{1, 2, 8, 9, 10, 20} {
		l := joined([]api.Entry{one(api.FieldDPort, rng(0, 5), 7)}, singles(api.FieldDPort, n-1))
		for i := range n {
			x := build(t, l)
			if errno := x.Take(i); errno != api.OK {
				t.Errorf("Take(%d) of %d: %d", i, n, errno)
			}
			changed := joined(l[:i], l[i+1:])
			wantSame(t, x, build(t, changed), changed)
		}
	}
}

// TestTakeBringsBack takes what covers all others, which no leaf has: they come back.
func TestTakeBringsBack(t *testing.T) {
	l := joined([]api.Entry{full(5)}, singles(api.FieldDPort, 9))
	x := build(t, l[1:])
	if e := x.Put(0, l[0]); e != api.OK {
		t.Errorf("Put: %d", e)
	}
	wantSame(t, x, build(t, l), l)
	if e := x.Take(0); e != api.OK {
		t.Errorf("Take: %d", e)
	}
	wantSame(t, x, build(t, l[1:]), l)
	for x.Len() > 0 {
		if e := x.Take(x.Len() - 1); e != api.OK {
			t.Errorf("Take: %d", e)
		}
	}
	wantSize(t, x, 1, 0)
	wantFind(t, x, api.Point{}, -1, 1, 0)
}

// TestTooComplexChangesNothing puts and takes what would make too many nodes, or a path too long.
func TestTooComplexChangesNothing(t *testing.T) {
	l := stairs(api.FieldSrc, 2048)
	x := build(t, l)
	for _, i := range []int{0, 5, 2047, 2048} {
		if e := x.Put(i, one(api.FieldSrc, rng(2046, 2046), 1)); e != api.ErrComplex {
			t.Errorf("Put(%d): %d", i, e)
		}
	}
	wantSame(t, x, build(t, l), l[:50])

	l = joined([]api.Entry{full(5)}, stairs(api.FieldSrc, 2049))
	x = build(t, l)
	if e := x.Take(0); e != api.ErrComplex {
		t.Errorf("Take(0): %d", e)
	}
	wantSize(t, x, 1, 2050)
	wantFind(t, x, at(api.FieldSrc, 9), 5, 1, 1)
	if e := x.Take(2049); e != api.OK { // what goes is covered; the others are 2048 stairs but for the last one, which ends
		t.Errorf("Take(2049): %d", e)
	}
	wantSize(t, x, 1, 2049)

	deep := nest(30, 30)
	l = joined(deep[:6], []api.Entry{full(5)}, deep[6:])
	x = build(t, l)
	if e := x.Take(6); e != api.ErrComplex {
		t.Errorf("Take(6): %d", e)
	}
	wantSame(t, x, build(t, l), l)
	l = nest(22, 22) // a field has 23 points, and 11, 5, 2 behind three cuts: then eight entries are left
	x = build(t, l)
	if e := x.Put(28, nest(23, 23)[28]); e != api.ErrComplex { // 24, and 12, 6, 3: a fourth cut
		t.Errorf("Put(28): %d", e)
	}
	wantSame(t, x, build(t, l), l)
	wantFind(t, x, api.Point{}, 101, 1+6*3, 7)
}

// P9.4, W2

// manyEntries answers n entries, with ranges that are wide, short, full, and sometimes empty.
func manyEntries(r *rand.Rand, n int) []api.Entry {
	var l []api.Entry
	for range n {
		e := full(r.Intn(60) - 5)
		for range 1 + r.Intn(3) {
			from := r.Intn(100)
			to := from + r.Intn(60) - 3
			if r.Intn(3) == 0 {
				to = from
			}
			e.Box.F[r.Intn(api.Fields)] = rng(from, max(to, 0))
		}
		l = append(l, e)
	}
	return l
}

// somePoints answers points beside the boxes of l, and others.
func somePoints(r *rand.Rand, l []api.Entry, n int) []api.Point {
	points := corners(l)
	r.Shuffle(len(points), func(i, k int) { points[i], points[k] = points[k], points[i] })
	points = points[:min(n, len(points))]
	for range n {
		var p api.Point
		for i := range p.F {
			p.F[i] = num(r.Intn(170))
		}
		points = append(points, p)
	}
	return points
}

func TestFindsTheFirst(t *testing.T) {
	built := 0
	for seed := range int64(300) {
		r := rand.New(rand.NewSource(seed))
		l := manyEntries(r, r.Intn(45))
		x, e := Build(l)
		if e == api.ErrComplex {
			continue
		}
		built++
		wantLeaves(t, x)
		for _, p := range somePoints(r, l, 200) {
			rule, visited, compared := x.Find(p)
			if want := scan(l, p); rule != want {
				t.Fatalf("seed %d: %x: %d; want %d", seed, p, rule, want)
			}
			if visited < 1 || visited > api.MaxDepth || compared < 0 || compared > api.LeafCap || compared == 0 && rule >= 0 {
				t.Fatalf("seed %d: %x: %d visited, %d compared", seed, p, visited, compared)
			}
		}
	}
	if built < 100 {
		t.Error("too few trees:", built)
	}
}

// wantLeaves looks at each leaf of a tree.
func wantLeaves(t *testing.T, x *Tree) {
	t.Helper()
	if x.Nodes() > api.NodeCap {
		t.Errorf("%d nodes", x.Nodes())
	}
	for n := range x.leaves() {
		if len(n.entries) > api.LeafCap {
			t.Errorf("a leaf with %d entries", len(n.entries))
		}
	}
}

// TestLeavesMayBeLeft breaks off among the leaves, which are told from the lower boxes up.
func TestLeavesMayBeLeft(t *testing.T) {
	x := build(t, stairs(api.FieldSrc, 64))
	for stop := range 8 {
		told := 0
		for n := range x.leaves() {
			if n.entries[0].Rule != 100+8*told {
				t.Errorf("leaf %d begins with rule %d", told, n.entries[0].Rule)
			}
			if told == stop {
				break
			}
			told++
		}
		if told != stop {
			t.Errorf("%d leaves; want %d", told, stop)
		}
	}
}

// TestChangedIsBuilt puts and takes at random, and holds the tree against one that is built of what is left.
func TestChangedIsBuilt(t *testing.T) {
	answers := map[api.Errno]int{}
	for seed := range int64(8) {
		r := rand.New(rand.NewSource(seed))
		l := manyEntries(r, 12)
		x, want := build(t, l), build(t, l)
		for range 80 {
			changed := slices.Clone(l)
			var got api.Errno
			if i := r.Intn(len(l) + 1); r.Intn(3) > 0 || len(l) == 0 {
				added := manyEntries(r, 1)[0]
				got, changed = x.Put(i, added), slices.Insert(changed, i, added)
			} else {
				i = min(i, len(l)-1)
				got, changed = x.Take(i), slices.Delete(changed, i, i+1)
			}
			answers[got]++
			built, e := Build(changed)
			if got != e {
				t.Fatalf("seed %d: %d; want %d", seed, got, e)
			}
			if e == api.OK {
				l, want = changed, built
			}
			wantSize(t, x, want.Nodes(), len(l))
		}
		wantSame(t, x, want, l)
		for _, p := range somePoints(r, l, 300) {
			if got, _, _ := x.Find(p); got != scan(l, p) {
				t.Fatalf("seed %d: %x: %d; want %d", seed, p, got, scan(l, p))
			}
		}
	}
	if answers[api.OK] < 200 || answers[api.ErrComplex] < 50 {
		t.Error("too few are so:", answers)
	}
}

// R3

func TestKeepsNothingThatIsHandedIn(t *testing.T) {
	for _, n := range []int{5, 20} {
		room := slices.Grow(singles(api.FieldDPort, n), 10)
		behind := room[:cap(room)]
		for i := n; i < len(behind); i++ {
			behind[i] = full(77)
		}
		before := slices.Clone(behind)
		l := singles(api.FieldDPort, n)
		x := build(t, room)
		y := build(t, room)
		if !slices.Equal(behind, before) {
			t.Error("Build changed what was handed in")
		}
		for i := range behind {
			behind[i] = full(99)
		}
		wantSame(t, x, build(t, l), l)
		for i := range 3 { // the changed tree is made of what was handed in then
			if e := x.Put(0, full(i)); e != api.OK {
				t.Errorf("Put: %d", e)
			}
		}
		for range 3 {
			if e := x.Take(0); e != api.OK {
				t.Errorf("Take: %d", e)
			}
		}
		for range n {
			if e := y.Take(0); e != api.OK {
				t.Errorf("Take: %d", e)
			}
		}
		wantSame(t, x, build(t, l), l)
		wantSame(t, y, build(t, nil), l)
		if slices.ContainsFunc(behind, func(e api.Entry) bool { return e != full(99) }) {
			t.Error("Put or Take changed what was handed in to Build")
		}
	}
}

// R1

// TestEnds builds trees of more entries than any configuration has.
func TestEnds(t *testing.T) {
	r := rand.New(rand.NewSource(1))
	wantComplex(t, manyEntries(r, 5000))
	l := joined([]api.Entry{{Box: cuts.Full(), Rule: 3}}, manyEntries(r, 50000))
	x := build(t, l)
	wantSize(t, x, 1, 50001)
	wantFind(t, x, at(api.FieldDPort, 3), 3, 1, 1)
	same := make([]api.Entry, 20000) // all have the point of noughts alone
	x = build(t, same)
	wantSize(t, x, 13, 20000)
	wantFind(t, x, api.Point{}, 0, 7, 1)
	wantFind(t, x, at(api.FieldZones, 1), -1, 2, 0)
}
