package tree

import (
	"slices"

	"caulker/api"
)

// Check: is a program made as it should be: each node of ones ahead of it, each of which is in one alone, as many as its kind has, with a text and a type if it has them?
func Check(t api.Tree) api.Errno {
	last := len(t.Nodes) - 1
	switch {
	case len(t.Nodes) > MaxNodes:
		return api.ErrLong
	case last < 0 || t.Root != last || t.Nodes[last].Kind != api.Program:
		return api.ErrForm
	}
	taken := make([]bool, len(t.Nodes))
	for i, n := range t.Nodes {
		if wrong := shaped(n); wrong != api.OK {
			return wrong
		}
		if wrong := take(taken, i, n.Kids); wrong != api.OK {
			return wrong
		}
	}
	if slices.Contains(taken[:last], false) {
		return api.ErrMissing
	}
	return api.OK
}

// shaped: has a node what its kind has, and nothing else?
func shaped(n api.Node) api.Errno {
	if !known(n.Kind) {
		return api.ErrMissing
	}
	s := shapes[n.Kind]
	switch {
	case len(n.Kids) < s.least || len(n.Kids) > s.most:
		return api.ErrArgs
	case n.Text != "" && !s.text, n.Type != api.Type{} && !s.typ, s.typ && !right(n.Type):
		return api.ErrForm
	}
	return api.OK
}

// take: may a node be made of these, and nobody else is made of any of them yet? They are taken then.
func take(taken []bool, node int, kids []int) api.Errno {
	for _, kid := range kids {
		if kid < 0 || kid >= node {
			return api.ErrOrder
		}
		if taken[kid] {
			return api.ErrTwice
		}
		taken[kid] = true
	}
	return api.OK
}

// Depth: how many nodes stand one in the other, at most.
func Depth(t api.Tree) int {
	if Check(t) != api.OK {
		return 0
	}
	depths := make([]int, len(t.Nodes))
	for i, n := range t.Nodes {
		for _, kid := range n.Kids {
			depths[i] = max(depths[i], depths[kid])
		}
		depths[i]++
	}
	return depths[t.Root]
}

// walk is how far one has walked over some nodes.
type walk struct {
	nodes []api.Node
	seen  []int
}

// Walk: a node and all that it is made of, each ahead of what it is made of, in order.
func Walk(t api.Tree, at int) []int {
	w := walk{nodes: t.Nodes}
	if len(t.Nodes) > MaxNodes || !w.from(at) {
		return nil
	}
	return w.seen
}

// from: walks over a node; false: there is no such one, or they don't end: as each node is in one alone, more than there are can't be seen.
func (w *walk) from(at int) bool {
	if at < 0 || at >= len(w.nodes) || len(w.seen) == len(w.nodes) {
		return false
	}
	w.seen = append(w.seen, at)
	for _, kid := range w.nodes[at].Kids {
		if !w.from(kid) {
			return false
		}
	}
	return true
}
