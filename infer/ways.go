package infer

import (
	"cmp"
	"slices"

	"caulker/api"
	"caulker/graph"
	"caulker/strict"
)

// places are those that may have marks, and which one each is: a graph's node.
type places struct {
	list    []strict.Place
	numbers map[strict.Place]int
}

// numbered: some places, numbered from 0 on.
func numbered(list []strict.Place) places {
	l := places{list: list, numbers: map[strict.Place]int{}}
	for number, p := range list {
		l.numbers[p] = number
	}
	return l
}

// has: is a place one of them?
func (l places) has(p strict.Place) bool {
	_, ok := l.numbers[p]
	return ok
}

// number: which one a place is; Null of any other one.
func (l places) number(p strict.Place) int {
	if number, ok := l.numbers[p]; ok {
		return number
	}
	return graph.Null
}

// at: the place of a number; Nowhere of Null.
func (l places) at(number int) strict.Place {
	if number == graph.Null {
		return strict.Nowhere()
	}
	return l.list[number]
}

// edge: a step between the places' numbers.
func (l places) edge(s Step) graph.Edge {
	return graph.Edge{From: l.number(s.From), To: l.number(s.To), Why: s.Why, At: s.At}
}

// ways makes a graph of the steps of all rounds. A place's steps are all of the round that found it, and come from places of earlier ones: so the one that comes from nearest to null is known there, and is enough. All of them could be more than a graph may have edges.
func (l places) ways(rounds [][]Step) (*graph.Graph, api.Errno) {
	g, e := graph.New(len(l.list))
	if e != api.OK {
		return nil, e
	}
	for _, steps := range rounds {
		far := g.Far()
		soonest := map[int]graph.Edge{}
		for _, s := range steps {
			next := l.edge(s)
			if known, ok := soonest[next.To]; reached(far, next.From) && (!ok || nearer(far, next.From, known.From)) {
				soonest[next.To] = next
			}
		}
		for _, s := range steps {
			if next := l.edge(s); soonest[next.To] == next {
				g.Add(next) // told twice, it is there already
			}
		}
	}
	return g, api.OK
}

// reached: does null come to a node, as far as is known?
func reached(far []int, node int) bool { return node == graph.Null || far[node] > 0 }

// nearer: is a node nearer to null than another one, both being reached?
func nearer(far []int, node, than int) bool {
	return than != graph.Null && (node == graph.Null || far[node] < far[than])
}

// sorted: steps by where they lead, where they come from, why, and at which node, each once.
func sorted(rounds [][]Step) []Step {
	list := slices.Concat(rounds...)
	slices.SortFunc(list, func(a, b Step) int {
		return cmp.Or(compare(a.To, b.To), compare(a.From, b.From), cmp.Compare(a.Why, b.Why), cmp.Compare(a.At, b.At))
	})
	return slices.Compact(list)
}

// compare holds places against each other: by their nodes, from the inside on.
func compare(a, b strict.Place) int {
	return cmp.Or(cmp.Compare(a.Node, b.Node), cmp.Compare(a.Layer, b.Layer))
}
