package cuts

import (
	"math/rand"
	"slices"
	"testing"

	"sallyport/api"
)

// What the chapter says, said once more: with sets of numbers that are gone through one by one, out of a few that follow one another.

// few is how many numbers there are.
const few = 10

// bases are the first of the numbers: the few go up from 0, over the border of the two halves, over both borders of the IPv4 addresses, and up to the greatest one.
func bases() []api.Addr {
	return []api.Addr{{}, {Lo: top - 4}, {Lo: 0xffff00000000 - 5}, {Lo: 0x1000000000000 - 5}, {Hi: 1 << 63, Lo: 77}, {Hi: top, Lo: top - few + 1}}
}

// shaped is a box, told by places among the few numbers: from, to.
type shaped [api.Fields][2]int

// spot is a point, told so.
type spot [api.Fields]int

// maker makes boxes and points of the few numbers.
type maker struct {
	*rand.Rand
	base api.Addr
}

func (m maker) number(n int) api.Addr {
	a := api.Addr{Hi: m.base.Hi, Lo: m.base.Lo + uint64(n)}
	if a.Lo < m.base.Lo {
		a.Hi++
	}
	return a
}

func (m maker) box(s shaped) api.Box {
	var b api.Box
	for i, r := range s {
		b.F[i] = api.Range{From: m.number(r[0]), To: m.number(r[1])}
	}
	return b
}

func (m maker) point(p spot) api.Point {
	var q api.Point
	for i, n := range p {
		q.F[i] = m.number(n)
	}
	return q
}

// shape answers a box: most ranges are wide, so that boxes often meet, some are of one number, some empty.
func (m maker) shape() shaped {
	var s shaped
	for i := range s {
		from, to := m.Intn(few), m.Intn(few)
		switch m.Intn(12) {
		case 0: // as it is: it may be empty
		case 1:
			to = from
		case 2, 3, 4:
			from, to = min(from, to), max(from, to)
		default:
			from, to = min(from, 2), max(to, few-3)
		}
		s[i] = [2]int{from, to}
	}
	return s
}

func (m maker) spot() spot {
	var p spot
	for i := range p {
		p[i] = m.Intn(few)
	}
	return p
}

// modelNumbers answers which of the few are in a range.
func modelNumbers(r [2]int) []int {
	var l []int
	for n := range few {
		if r[0] <= n && n <= r[1] {
			l = append(l, n)
		}
	}
	return l
}

// modelBoth answers what stands in both lists.
func modelBoth(a, b []int) []int {
	return slices.DeleteFunc(a, func(n int) bool { return !slices.Contains(b, n) })
}

// modelMeet answers the points that both have; false, if there are none.
func modelMeet(a, b shaped) (shaped, bool) {
	var s shaped
	for i := range s {
		l := modelBoth(modelNumbers(a[i]), modelNumbers(b[i]))
		if len(l) == 0 {
			return shaped{}, false
		}
		s[i] = [2]int{l[0], l[len(l)-1]}
	}
	return s, true
}

func modelEmpty(s shaped) bool {
	for _, r := range s {
		if len(modelNumbers(r)) == 0 {
			return true
		}
	}
	return false
}

func modelHas(s shaped, p spot) bool {
	for i, r := range s {
		if !slices.Contains(modelNumbers(r), p[i]) {
			return false
		}
	}
	return true
}

// modelCovers tells of each field by itself whether b has a number there that a has not.
func modelCovers(a, b shaped) bool {
	for i := range a {
		for _, n := range modelNumbers(b[i]) {
			if !slices.Contains(modelNumbers(a[i]), n) && !modelEmpty(b) {
				return false
			}
		}
	}
	return true
}

func modelPoints(l []shaped, b shaped, field int) []int {
	var points []int
	for x := b[field][0]; x < b[field][1]; x++ {
		for _, e := range l {
			if _, ok := modelMeet(e, b); ok && (e[field][1] == x || e[field][0] == x+1) {
				points = append(points, x)
				break
			}
		}
	}
	return points
}

// each asks of many boxes, at each of the bases.
func each(t *testing.T, n int, ask func(t *testing.T, m maker)) {
	t.Helper()
	for i, base := range bases() {
		m := maker{rand.New(rand.NewSource(int64(i + 1))), base}
		for range n {
			ask(t, m)
			if t.Failed() {
				return
			}
		}
	}
}

// wantBoth tells whether both ways were met often enough for a test to mean something.
func wantBoth(t *testing.T, what string, told map[bool]int) {
	t.Helper()
	if told[true] < 500 || told[false] < 500 {
		t.Error("too few are so:", what, told)
	}
}

func TestIsTheModel(t *testing.T) {
	meets, covers, has, empty := map[bool]int{}, map[bool]int{}, map[bool]int{}, map[bool]int{}
	each(t, 5000, func(t *testing.T, m maker) {
		a, b, p := m.shape(), m.shape(), m.spot()
		if m.Intn(2) == 0 {
			b[m.Intn(api.Fields)] = [2]int{m.Intn(few), m.Intn(few)}
		}
		boxA, boxB := m.box(a), m.box(b)
		both, ok := modelMeet(a, b)
		want := m.box(both)
		if !ok {
			want = api.Box{}
		}
		if got, gotOK := MeetBox(boxA, boxB); got != want || gotOK != ok {
			t.Errorf("MeetBox(%x, %x): %x, %v", boxA, boxB, got, gotOK)
		}
		if got := Empty(boxA); got != modelEmpty(a) {
			t.Errorf("Empty(%x): %v", boxA, got)
		}
		if got := Covers(boxA, boxB); got != modelCovers(a, b) {
			t.Errorf("Covers(%x, %x): %v", boxA, boxB, got)
		}
		if got := HasPoint(boxA, m.point(p)); got != modelHas(a, p) {
			t.Errorf("HasPoint(%x, %x): %v", boxA, m.point(p), got)
		}
		meets[ok]++
		covers[modelCovers(a, b)]++
		has[modelHas(a, p)]++
		empty[modelEmpty(a)]++
	})
	wantBoth(t, "meets", meets)
	wantBoth(t, "covers", covers)
	wantBoth(t, "has", has)
	wantBoth(t, "empty", empty)
}

func TestMeetIsTheModel(t *testing.T) {
	for _, base := range bases() {
		m := maker{nil, base}
		for i := range few * few * few * few {
			var a, b shaped // all their ranges are the same
			for k := range a {
				a[k], b[k] = [2]int{i % few, i / few % few}, [2]int{i / few / few % few, i / few / few / few}
			}
			both, ok := modelMeet(a, b)
			want := m.box(both).F[0]
			if !ok {
				want = api.Range{}
			}
			if got, gotOK := Meet(m.box(a).F[0], m.box(b).F[0]); got != want || gotOK != ok {
				t.Fatalf("Meet(%x, %x): %x, %v", m.box(a).F[0], m.box(b).F[0], got, gotOK)
			}
		}
	}
}

func TestPointsIsTheModel(t *testing.T) {
	told := map[int]int{}
	each(t, 3000, func(t *testing.T, m maker) {
		var shapes []shaped
		var l []api.Entry
		for range m.Intn(8) {
			s := m.shape()
			shapes, l = append(shapes, s), append(l, api.Entry{Box: m.box(s), Rule: m.Intn(4) - 1})
		}
		b := m.shape()
		for field := range api.Fields {
			var want []api.Addr
			for _, x := range modelPoints(shapes, b, field) {
				want = append(want, m.number(x))
			}
			if got := Points(l, m.box(b), field); !slices.Equal(got, want) {
				t.Errorf("Points(%x, %x, %d): %x; want %x", l, m.box(b), field, got, want)
			}
			told[len(want)]++
		}
	})
	for n := range 6 {
		if told[n] < 100 {
			t.Error("too few have so many points:", n, told[n])
		}
	}
}

// P8.5

// TestSplitKeepsEachPoint holds the points of a box against those of the two that are made of it.
func TestSplitKeepsEachPoint(t *testing.T) {
	made := map[bool]int{}
	each(t, 3000, func(t *testing.T, m maker) {
		s, field, at := m.shape(), m.Intn(api.Fields), m.Intn(few)
		b := m.box(s)
		lower, upper, ok := Split(b, field, m.number(at))
		if want := s[field][0] <= at && at < s[field][1]; ok != want {
			t.Errorf("Split(%x, %d, %x): %v", b, field, m.number(at), ok)
		}
		made[ok]++
		if !ok {
			return
		}
		p := m.spot()
		for i, r := range s { // it is in the box but for, perhaps, the field
			if i != field && m.Intn(20) > 0 {
				p[i] = r[0]
			}
		}
		for p[field] = range few {
			q := m.point(p)
			isLower, isUpper := HasPoint(lower, q), HasPoint(upper, q)
			if isLower && isUpper || HasPoint(b, q) != (isLower || isUpper) {
				t.Errorf("Split(%x, %d, %x): %x is in %v, %v", b, field, m.number(at), q, isLower, isUpper)
			}
			if (isLower || isUpper) && isLower != (p[field] <= at) {
				t.Errorf("Split(%x, %d, %x): %x is on the wrong side", b, field, m.number(at), q)
			}
		}
	})
	wantBoth(t, "made", made)
}

// TestPointsLeaveNoEdge splits a box at its points till it has none: then no entry that meets a piece begins or ends within it.
func TestPointsLeaveNoEdge(t *testing.T) {
	each(t, 1000, func(t *testing.T, m maker) {
		var l []api.Entry
		for range 1 + m.Intn(6) {
			l = append(l, api.Entry{Box: m.box(m.shape())})
		}
		field, b := m.Intn(api.Fields), m.box(m.shape())
		for pieces := 1; ; pieces++ {
			points := Points(l, b, field)
			if len(points) == 0 {
				wantNoEdge(t, l, b, field)
				return
			}
			if pieces > few {
				t.Errorf("there is always a point more: %x", points)
				return
			}
			lower, upper, ok := Split(b, field, points[0])
			if !ok {
				t.Errorf("a point at which no split is: %x of %x", points[0], b.F[field])
				return
			}
			wantNoEdge(t, l, lower, field)
			b = upper
		}
	})
}

// wantNoEdge tells of an entry that meets b, but has a part of its range of the field alone.
func wantNoEdge(t *testing.T, l []api.Entry, b api.Box, field int) {
	t.Helper()
	for _, e := range l {
		both, ok := MeetBox(e.Box, b)
		if ok && both.F[field] != b.F[field] {
			t.Errorf("%x begins or ends within %x", e.Box.F[field], b.F[field])
		}
	}
}
