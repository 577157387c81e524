package graph

import (
	"container/heap"
	"sort"
)

// order takes the places one by one, each behind all that its links lead to; of those that may be next, the least. None of a ring of links is taken.
func (l links) order() []int {
	waits := make([]int, len(l.next)) // of each place, for how many links
	var ready queue
	for at, next := range l.next {
		waits[at] = len(next)
		if waits[at] == 0 {
			heap.Push(&ready, at)
		}
	}
	var taken []int
	for ready.Len() > 0 {
		at := heap.Pop(&ready).(int)
		taken = append(taken, at)
		for _, from := range l.back[at] {
			waits[from]--
			if waits[from] == 0 {
				heap.Push(&ready, from)
			}
		}
	}
	return taken
}

// queue is a heap of numbers, the least one first, for package heap alone to push and pop.
type queue struct{ sort.IntSlice }

func (q *queue) Push(x any) { q.IntSlice = append(q.IntSlice, x.(int)) }

func (q *queue) Pop() any {
	last := len(q.IntSlice) - 1
	n := q.IntSlice[last]
	q.IntSlice = q.IntSlice[:last]
	return n
}
