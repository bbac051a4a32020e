package classify

import (
	"slices"

	"sallyport/api"
	"sallyport/cuts"
)

// node is a leaf or an inner node.
type node interface {
	// find answers what Tree.Find does, from this node down.
	find(p api.Point) (rule, visited, compared int)
	// tell yields the leaves from this node down, till yield answers false; so does tell then.
	tell(yield func(leaf) bool) bool
}

// leaf is a node whose entries are compared one by one.
type leaf struct{ entries []api.Entry }

func (n leaf) find(p api.Point) (rule, visited, compared int) {
	i := slices.IndexFunc(n.entries, func(e api.Entry) bool { return cuts.HasPoint(e.Box, p) })
	if i < 0 {
		return -1, 1, len(n.entries)
	}
	return n.entries[i].Rule, 1, i + 1
}

func (n leaf) tell(yield func(leaf) bool) bool { return yield(n) }

// inner is a node with two children, which have its points between them.
type inner struct {
	box          api.Box // of the lower one
	lower, upper node
}

func (n inner) find(p api.Point) (rule, visited, compared int) {
	child := n.upper
	if cuts.HasPoint(n.box, p) {
		child = n.lower
	}
	rule, visited, compared = child.find(p)
	return rule, visited + 1, compared
}

func (n inner) tell(yield func(leaf) bool) bool {
	return n.lower.tell(yield) && n.upper.tell(yield)
}
