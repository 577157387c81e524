package graph

import (
	"slices"
	"strings"
)

// net is a set of names, with links between their places.
type net struct {
	names  []string // in rising order, so that places are in the order of their names
	places map[string]int
	links
}

func newNet(n []string) net {
	names := slices.Clone(n)
	slices.Sort(names)
	names = slices.Compact(names)
	places := make(map[string]int, len(names))
	for at, name := range names {
		places[name] = at
	}
	return net{names, places, newLinks(len(names))}
}

// lead lays an edge; none, if one of its ends is no name of the net.
func (g net) lead(from, to string) {
	a, isA := g.places[from]
	b, isB := g.places[to]
	if isA && isB {
		g.add(a, b)
	}
}

// ledTo are the names that edges lead to from one; none, if it is no name of the net.
func (g net) ledTo(name string) []string {
	at, is := g.places[name]
	if !is {
		return nil
	}
	l := slices.Clone(g.next[at])
	slices.Sort(l)
	return g.tell(slices.Compact(l))
}

// reached are a name and all that are led to from it by edges; none, if it is no name of the net.
func (g net) reached(name string) []string {
	from, is := g.places[name]
	if !is {
		return nil
	}
	var l []int
	tour(g.next, make([]bool, len(g.names)), from, func(at int) { l = append(l, at) })
	slices.Sort(l)
	return g.tell(l)
}

// tell tells the names of places. They are copied: what is answered shares no memory with what was handed in.
func (g net) tell(l []int) []string {
	names := make([]string, 0, len(l))
	for _, at := range l {
		names = append(names, strings.Clone(g.names[at]))
	}
	return names
}

// tellAll tells the names of places, list by list.
func (g net) tellAll(lists [][]int) [][]string {
	all := make([][]string, 0, len(lists))
	for _, l := range lists {
		all = append(all, g.tell(l))
	}
	return all
}
