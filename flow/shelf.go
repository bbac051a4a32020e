package flow

import "sallyport/wheel"

// shelf has flows by their IDs, each with its Ends as the deadline of its ID. It stands apart from Table, so that a table has no calls of the wheel's beside its own.
type shelf struct {
	*wheel.Wheel
	of map[int]Flow
}

func newShelf() shelf {
	return shelf{Wheel: wheel.New(), of: map[int]Flow{}}
}

// put puts f there, in the place of what its ID had. There is always room for its deadline: a table has fewer flows than a wheel may have deadlines.
func (s shelf) put(f Flow) {
	s.of[f.ID] = f
	s.Set(f.ID, f.Ends)
}

// free answers the least ID from 1 on that no flow has. So no ID is above the number of flows that were there at once.
func (s shelf) free() int {
	id := 1
	for s.has(id) {
		id++
	}
	return id
}

func (s shelf) has(id int) bool {
	_, ok := s.of[id]
	return ok
}
