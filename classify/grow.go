package classify

import (
	"slices"

	"sallyport/api"
	"sallyport/cuts"
)

// grow answers the root of the tree of l; false, if the tree is too complex.
func grow(l []api.Entry) (node, bool) {
	var g grower
	return g.grow(l, cuts.Full(), 1)
}

// grower counts the nodes of a tree while they are made, so that a tree with far too many is given up early.
type grower struct{ nodes int }

// grow answers the node at that depth that has the box b and the entries l; false, if the tree is too complex.
func (g *grower) grow(l []api.Entry, b api.Box, depth int) (node, bool) {
	g.nodes++
	if g.nodes > api.NodeCap {
		return nil, false
	}
	l = left(l, b)
	if len(l) <= api.LeafCap {
		return leaf{l}, true
	}
	if depth == api.MaxDepth {
		return nil, false
	}
	below, above := halves(l, b)
	lower, ok := g.grow(l, below, depth+1)
	if !ok {
		return nil, false
	}
	upper, ok := g.grow(l, above, depth+1)
	if !ok {
		return nil, false
	}
	return inner{below, lower, upper}, true
}

// left answers the entries that may be the first one to have a point of b, in their order.
func left(l []api.Entry, b api.Box) []api.Entry {
	last := slices.IndexFunc(l, func(e api.Entry) bool { return cuts.Covers(e.Box, b) })
	if last >= 0 {
		l = l[:last+1]
	}
	var met []api.Entry
	for _, e := range l {
		if _, meets := cuts.MeetBox(e.Box, b); meets {
			met = append(met, e)
		}
	}
	return met
}

// halves answers the boxes of a node's children: b is split in the field with the most points, in their middle.
// There is one: at most the last of l covers b, and each other begins or ends within it.
func halves(l []api.Entry, b api.Box) (api.Box, api.Box) {
	var field int
	var points []api.Addr
	for f := range api.Fields {
		if p := cuts.Points(l, b, f); len(p) > len(points) {
			field, points = f, p
		}
	}
	below, above, _ := cuts.Split(b, field, points[len(points)/2])
	return below, above
}
