package classify

import (
	"math/rand"
	"slices"
	"testing"

	"sallyport/api"
	"sallyport/cuts"
)

// What the chapter says, said once more: with numbers that are gone through one by one, out of a few that follow one another, and one more on either side, which stands for all that are beyond them.

// few is how many numbers there are, between those that stand for what is beyond.
const few = 24

// shaped is a box, told by places among the numbers: from, to.
type shaped [api.Fields][2]int

// spot is a point, told so.
type spot [api.Fields]int

// world tells which numbers the places mean.
type world struct {
	*rand.Rand
	base        api.Addr // of the place 0
	first, last int      // the outermost places: -1 and few, or 0 and few - 1 where no number is beyond
}

// worlds answer the few up from 0, over the border of the two halves, over that of the IPv4 addresses, and up to the greatest number.
func worlds(r *rand.Rand) []world {
	return []world{
		{r, api.Addr{}, 0, few},
		{r, api.Addr{Lo: top - 9}, -1, few},
		{r, api.Addr{Lo: 0xffff00000000 - 9}, -1, few},
		{r, api.Addr{Hi: top, Lo: top - few + 1}, -1, few - 1},
	}
}

func (w world) number(n int) api.Addr {
	if n < 0 {
		return api.Addr{}
	}
	if n >= few {
		return last
	}
	a := api.Addr{Hi: w.base.Hi, Lo: w.base.Lo + uint64(n)}
	if a.Lo < w.base.Lo {
		a.Hi++
	}
	return a
}

// all answers the box that has every point.
func (w world) all() shaped {
	var s shaped
	for i := range s {
		s[i] = [2]int{w.first, w.last}
	}
	return s
}

// shape answers a box: most of its ranges are full, the others of all kinds; seldom all of them.
func (w world) shape() shaped {
	s := w.all()
	if w.Intn(40) == 0 {
		return s
	}
	for range 1 + w.Intn(3) {
		from, to := w.Intn(few), w.Intn(few)
		switch w.Intn(12) {
		case 0: // as it is: it may be empty
		case 1, 2, 3:
			to = from
		case 4:
			from = w.first
		case 5:
			to = w.last
		default:
			from, to = min(from, to), max(from, to)
		}
		s[w.Intn(api.Fields)] = [2]int{from, to}
	}
	return s
}

func (w world) box(s shaped) api.Box {
	var b api.Box
	for i, r := range s {
		b.F[i] = api.Range{From: w.number(r[0]), To: w.number(r[1])}
	}
	return b
}

func (w world) spot() spot {
	var p spot
	for i := range p {
		p[i] = w.first + w.Intn(w.last-w.first+1)
	}
	return p
}

func (w world) point(p spot) api.Point {
	var q api.Point
	for i, n := range p {
		q.F[i] = w.number(n)
	}
	return q
}

func modelHas(r [2]int, n int) bool { return r[0] <= n && n <= r[1] }

// modelBoth counts the numbers of each field that both have, and those of b alone.
func modelBoth(a, b [2]int) (both, alone int) {
	for n := b[0]; n <= b[1]; n++ {
		if modelHas(a, n) {
			both++
		} else {
			alone++
		}
	}
	return both, alone
}

func modelMeets(a, b shaped) bool {
	for i := range a {
		if both, _ := modelBoth(a[i], b[i]); both == 0 {
			return false
		}
	}
	return true
}

func modelCovers(a, b shaped) bool {
	for i := range a {
		if _, alone := modelBoth(a[i], b[i]); alone > 0 {
			return false
		}
	}
	return true
}

// modelPoints answers the numbers of b's range, but for its last one, behind which an entry of l ends or begins.
func modelPoints(l []int, shapes []shaped, b shaped, field int) []int {
	var points []int
	for x := b[field][0]; x < b[field][1]; x++ {
		if slices.ContainsFunc(l, func(i int) bool { return shapes[i][field][1] == x || shapes[i][field][0] == x+1 }) {
			points = append(points, x)
		}
	}
	return points
}

// modelNode is a node: its box, which of all entries it has, and its children, if it has some.
type modelNode struct {
	box      shaped
	entries  []int
	children []*modelNode
}

// modelTree makes the node of b with the entries l, as deep as it comes to be; nil, if the whole comes to have far too many nodes.
func modelTree(l []int, shapes []shaped, b shaped, nodes *int) *modelNode {
	*nodes++
	if *nodes > 2*api.NodeCap {
		return nil
	}
	var met []int
	for _, i := range l {
		if modelMeets(shapes[i], b) {
			met = append(met, i)
		}
	}
	if k := slices.IndexFunc(met, func(i int) bool { return modelCovers(shapes[i], b) }); k >= 0 {
		met = met[:k+1]
	}
	n := &modelNode{box: b, entries: met}
	if len(met) <= 8 {
		return n
	}
	best, most := 0, []int(nil)
	for field := range api.Fields {
		if points := modelPoints(met, shapes, b, field); len(points) > len(most) {
			best, most = field, points
		}
	}
	x, below, above := most[len(most)/2], b, b
	below[best][1], above[best][0] = x, x+1
	for _, box := range []shaped{below, above} {
		child := modelTree(met, shapes, box, nodes)
		if child == nil {
			return nil
		}
		n.children = append(n.children, child)
	}
	return n
}

// deepest answers the depth of the deepest node, n's own being 1.
func (n *modelNode) deepest() int {
	depth := 0
	for _, c := range n.children {
		depth = max(depth, c.deepest())
	}
	return depth + 1
}

// find answers which entry is found, or -1, how many nodes were visited, how many entries compared.
func (n *modelNode) find(p spot, shapes []shaped) (int, int, int) {
	for visited := 1; ; visited++ {
		if len(n.children) == 0 {
			for k, i := range n.entries {
				if modelHasSpot(shapes[i], p) {
					return i, visited, k + 1
				}
			}
			return -1, visited, len(n.entries)
		}
		k := slices.IndexFunc(n.children, func(c *modelNode) bool { return modelHasSpot(c.box, p) })
		n = n.children[k]
	}
}

func modelHasSpot(s shaped, p spot) bool {
	for i, n := range p {
		if !modelHas(s[i], n) {
			return false
		}
	}
	return true
}

// wantModel holds the tree of these boxes against the model's; it tells how many nodes the model has.
func wantModel(t *testing.T, w world, shapes []shaped) int {
	t.Helper()
	var l []api.Entry
	var numbers []int
	for i, s := range shapes {
		l = append(l, api.Entry{Box: w.box(s), Rule: i})
		numbers = append(numbers, i)
	}
	nodes := 0
	model := modelTree(numbers, shapes, w.all(), &nodes)
	if model == nil || nodes > 512 || model.deepest() > 24 {
		wantComplex(t, l)
		return nodes
	}
	x := build(t, l)
	wantSize(t, x, nodes, len(l))
	for range 100 {
		p := w.spot()
		rule, visited, compared := model.find(p, shapes)
		wantFind(t, x, w.point(p), rule, visited, compared)
	}
	return nodes
}

func TestTheModelIsFull(t *testing.T) {
	for _, w := range worlds(nil) {
		if w.box(w.all()) != cuts.Full() {
			t.Errorf("%x is not full", w.box(w.all()))
		}
	}
}

func TestIsTheModel(t *testing.T) {
	sizes := map[string]int{}
	for seed := range int64(150) {
		for _, w := range worlds(rand.New(rand.NewSource(seed))) {
			var shapes []shaped
			for range w.Intn(50) {
				shapes = append(shapes, w.shape())
			}
			switch n := wantModel(t, w, shapes); {
			case n == 1:
				sizes["one"]++
			case n < 20:
				sizes["a few"]++
			case n <= 512:
				sizes["many"]++
			default:
				sizes["too many"]++
			}
			if t.Failed() {
				t.Fatal("seed", seed, "from", w.base)
			}
		}
	}
	for _, what := range []string{"one", "a few", "many", "too many"} {
		if sizes[what] < 20 {
			t.Error("too few are so:", what, sizes)
		}
	}
}
