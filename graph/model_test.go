package graph

import (
	"math/rand"
	"slices"
	"testing"

	"caulker/api"
)

// far is how many of the edges null comes along to each node, at least, found by going over all of them again and again.
func far(nodes int, edges []Edge) []int {
	list := slices.Repeat([]int{-1}, nodes)
	for range nodes + 1 {
		for _, e := range edges {
			if e.From != Null && list[e.From] < 0 {
				continue
			}
			next := 1
			if e.From != Null {
				next += list[e.From]
			}
			if list[e.To] < 0 || next < list[e.To] {
				list[e.To] = next
			}
		}
	}
	return list
}

// come: to which nodes null comes along the edges that are kept.
func come(nodes int, edges []Edge, kept func(i int) bool) []bool {
	var list []Edge
	for i, e := range edges {
		if kept(i) {
			list = append(list, e)
		}
	}
	var set []bool
	for _, n := range far(nodes, list) {
		set = append(set, n > 0)
	}
	return set
}

// hold holds all that a graph answers to the document.
func hold(t *testing.T, g *Graph) {
	t.Helper()
	edges := g.Edges()
	all := come(g.Len(), edges, func(int) bool { return true })
	want := far(g.Len(), edges)
	if !slices.Equal(g.Far(), want) || !slices.Equal(g.Solve(), all) {
		t.Fatalf("of %v: %v %v", edges, g.Far(), g.Solve())
	}
	for number := -1; number <= len(edges); number++ {
		if !slices.Equal(g.Without(number), come(g.Len(), edges, func(i int) bool { return i != number })) {
			t.Fatalf("of %v without %d: %v", edges, number, g.Without(number))
		}
	}
	for node, n := range want {
		path := g.Path(node)
		if len(path) != max(n, 0) {
			t.Fatalf("of %v to %d: %v", edges, node, path)
		}
		at := Null
		for _, e := range path {
			if e.From != at || !slices.Contains(edges, e) {
				t.Fatalf("of %v to %d: %v", edges, node, path)
			}
			at = e.To
		}
		if n > 0 && at != node {
			t.Fatalf("of %v to %d: %v", edges, node, path)
		}
	}
}

// bits are the numbers of those that are set.
func bits(set, n int) ([]int, []bool) {
	list, in := []int{}, make([]bool, n)
	for i := range n {
		if set>>i&1 == 1 {
			list = append(list, i)
			in[i] = true
		}
	}
	return list, in
}

// holdSets holds what a graph answers of each set of its nodes to the document.
func holdSets(t *testing.T, g *Graph) {
	t.Helper()
	edges, least := g.Edges(), g.Solve()
	for set := range 1 << g.Len() {
		list, in := bits(set, g.Len())
		right := true
		for _, e := range edges {
			if (e.From == Null || in[e.From]) && !in[e.To] {
				right = false
			}
		}
		if g.Right(in) != right {
			t.Fatalf("of %v: %v", edges, in)
		}
		for i := range in {
			if right && least[i] && !in[i] {
				t.Fatalf("of %v: %v isn't the least one, %v is less", edges, least, in)
			}
		}
		want := come(g.Len(), edges, func(i int) bool { return !in[edges[i].To] })
		var over []Edge
		for _, e := range edges {
			if in[e.To] && (e.From == Null || want[e.From]) {
				over = append(over, e)
			}
		}
		got, cut := g.Shut(list...)
		if !slices.Equal(got, want) || !slices.Equal(cut, over) {
			t.Fatalf("of %v, %v shut: %v %v", edges, list, got, cut)
		}
	}
	if !g.Right(least) {
		t.Fatalf("of %v: %v isn't right", edges, least)
	}
}

// P21.2 to P21.5: of graphs made at chance, in all sets of their nodes.
func TestModel(t *testing.T) {
	c := rand.New(rand.NewSource(21))
	reached, never := 0, 0
	for range 3000 {
		nodes := 1 + c.Intn(7)
		g := made(t, nodes)
		for range c.Intn(3 * nodes) {
			e := Edge{c.Intn(nodes+1+c.Intn(2)) - 1, c.Intn(nodes), c.Intn(2), c.Intn(2)}
			if e.From == nodes {
				e.From = Null
			}
			if c.Intn(3) > 0 && e.From == Null {
				e.From = c.Intn(nodes)
			}
			twice := slices.Contains(g.Edges(), e)
			if got := g.Add(e); (got == api.ErrTwice) != twice || !twice && got != api.OK {
				t.Fatalf("%v: %d", e, got)
			}
		}
		hold(t, g)
		holdSets(t, g)
		for _, n := range g.Far() {
			if n > 2 {
				reached++
			} else if n < 0 {
				never++
			}
		}
	}
	if reached < 500 || never < 500 {
		t.Errorf("%d far ones, %d not reached", reached, never)
	}
}
