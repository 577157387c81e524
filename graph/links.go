package graph

import (
	"cmp"
	"slices"
)

// links lead from places to places.
type links struct {
	next [][]int // of each place, where links lead to from it
	back [][]int // of each place, where the links come from that lead to it
}

func newLinks(places int) links {
	return links{make([][]int, places), make([][]int, places)}
}

func (l links) add(from, to int) {
	l.next[from] = append(l.next[from], to)
	l.back[to] = append(l.back[to], from)
}

// step is a place on a way, and how many of the links there were tried.
type step struct{ at, tried int }

// tour goes from a place along links to all those where it has not been, and leaves each as soon as it has been to all that are led to from there. It does not call itself: a way may be longer than the stack.
func tour(next [][]int, been []bool, from int, leave func(at int)) {
	been[from] = true
	way := []step{{at: from}}
	for len(way) > 0 {
		last := &way[len(way)-1]
		if last.tried == len(next[last.at]) {
			leave(last.at)
			way = way[:len(way)-1]
			continue
		}
		to := next[last.at][last.tried]
		last.tried++
		if !been[to] {
			been[to] = true
			way = append(way, step{at: to})
		}
	}
}

// parts are the places, parted: two are in one part, if each is led to from the other one. Each part is in rising order, and they by their first places.
func (l links) parts() [][]int {
	been := make([]bool, len(l.next))
	var left []int
	for at := range been {
		if !been[at] {
			tour(l.next, been, at, func(at int) { left = append(left, at) })
		}
	}
	clear(been)
	var parts [][]int
	// The place that is left last of a part is left behind all those of the parts that it leads to. So whoever goes from there against the links comes to its own part alone, or to where he has been.
	for _, at := range slices.Backward(left) {
		if been[at] {
			continue
		}
		var part []int
		tour(l.back, been, at, func(at int) { part = append(part, at) })
		slices.Sort(part)
		parts = append(parts, part)
	}
	slices.SortFunc(parts, func(a, b []int) int { return cmp.Compare(a[0], b[0]) })
	return parts
}

// between are the links from one part to another one; places are those of the parts then.
func (l links) between(parts [][]int) links {
	partOf := make([]int, len(l.next))
	for k, part := range parts {
		for _, at := range part {
			partOf[at] = k
		}
	}
	m := newLinks(len(parts))
	for from, next := range l.next {
		for _, to := range next {
			if partOf[from] != partOf[to] {
				m.add(partOf[from], partOf[to])
			}
		}
	}
	return m
}
