package wheel

// deadline is the deadline of one id.
type deadline struct {
	id, at int
	place  int // in the queue: so that it is found there without a search
}

// queue is a heap of deadlines: the first one in their order stands first.
type queue []*deadline

func (q *queue) Len() int { return len(*q) }

// Less holds ids against each other, too: no two are alike, so that there is just one order.
func (q *queue) Less(i, j int) bool {
	a, b := (*q)[i], (*q)[j]
	if a.at != b.at {
		return a.at < b.at
	}
	return a.id < b.id
}

func (q *queue) Swap(i, j int) {
	l := *q
	l[i], l[j] = l[j], l[i]
	l[i].place, l[j].place = i, j
}

func (q *queue) Push(x any) {
	d := x.(*deadline)
	d.place = len(*q)
	*q = append(*q, d)
}

func (q *queue) Pop() any {
	last := len(*q) - 1
	d := (*q)[last]
	// What is gone must not be held on to by the spare room.
	(*q)[last] = nil
	*q = (*q)[:last]
	return d
}
