package graph

import (
	"math"
	"slices"
	"testing"

	"caulker/api"
)

// made is a graph of so many nodes with these edges.
func made(t *testing.T, nodes int, edges ...Edge) *Graph {
	t.Helper()
	g, e := New(nodes)
	if e != api.OK {
		t.Fatalf("New of %d: %d", nodes, e)
	}
	for _, x := range edges {
		if e := g.Add(x); e != api.OK {
			t.Fatalf("%v: %d", x, e)
		}
	}
	return g
}

// P21.1: how many nodes there may be.
func TestNew(t *testing.T) {
	for _, nodes := range []int{0, 1, 2, 100, MaxNodes - 1, MaxNodes} {
		g := made(t, nodes)
		if g.Len() != nodes || len(g.Edges()) != 0 || len(g.Solve()) != nodes || len(g.Far()) != nodes {
			t.Errorf("%d nodes", nodes)
		}
	}
	for _, nodes := range []int{math.MinInt, -2, -1, MaxNodes + 1, 1 << 20, math.MaxInt} {
		if g, e := New(nodes); g != nil || e != api.ErrRange {
			t.Errorf("%d nodes: %v %d", nodes, g, e)
		}
	}
}

// P21.1: edges that may not be added; nothing is changed by one. Of an edge all is held against the others.
func TestAdd(t *testing.T) {
	g := made(t, 3)
	var there []Edge
	for _, x := range []struct {
		Edge
		want api.Errno
	}{
		{Edge{Null, 0, 0, 0}, api.OK}, {Edge{Null, 2, 0, 0}, api.OK}, {Edge{0, 2, 0, 0}, api.OK}, {Edge{2, 0, 0, 0}, api.OK}, {Edge{1, 1, 0, 0}, api.OK},
		{Edge{Null, 0, 0, 0}, api.ErrTwice}, {Edge{2, 0, 0, 0}, api.ErrTwice}, {Edge{1, 1, 0, 0}, api.ErrTwice},
		{Edge{Null, 0, 1, 0}, api.OK}, {Edge{Null, 0, 0, 1}, api.OK}, {Edge{Null, 0, 1, 1}, api.OK}, {Edge{Null, 0, 1, 0}, api.ErrTwice}, {Edge{Null, 0, 1, 1}, api.ErrTwice},
		{Edge{Null, 0, -1, math.MinInt}, api.OK}, {Edge{Null, 0, math.MaxInt, -7}, api.OK}, {Edge{Null, 0, -1, math.MinInt}, api.ErrTwice},
		{Edge{-2, 0, 0, 0}, api.ErrRange}, {Edge{3, 0, 0, 0}, api.ErrRange}, {Edge{0, 3, 0, 0}, api.ErrRange}, {Edge{0, -1, 0, 0}, api.ErrRange}, {Edge{Null, Null, 0, 0}, api.ErrRange}, {Edge{Null, 3, 0, 0}, api.ErrRange},
		{Edge{math.MinInt, 0, 0, 0}, api.ErrRange}, {Edge{math.MaxInt, 0, 0, 0}, api.ErrRange}, {Edge{0, math.MinInt, 0, 0}, api.ErrRange}, {Edge{0, math.MaxInt, 0, 0}, api.ErrRange}, {Edge{0, 1, 5, 5}, api.OK},
	} {
		if e := g.Add(x.Edge); e != x.want {
			t.Errorf("%v: %d, not %d", x.Edge, e, x.want)
		}
		if x.want == api.OK {
			there = append(there, x.Edge)
		}
		if !slices.Equal(g.Edges(), there) || g.Len() != 3 {
			t.Fatalf("behind %v: %v", x.Edge, g.Edges())
		}
		hold(t, g)
	}
	if e := made(t, 0).Add(Edge{Null, 0, 0, 0}); e != api.ErrRange {
		t.Errorf("of no nodes: %d", e)
	}
}

// P21.1: as many edges as there may be, and which error comes first then.
func TestMany(t *testing.T) {
	g := made(t, 2)
	for i := range MaxEdges {
		if e := g.Add(Edge{i%2 - 1, i / 2 % 2, i, -i}); e != api.OK {
			t.Fatalf("%d: %d", i, e)
		}
	}
	edges := g.Edges()
	for _, x := range []struct {
		Edge
		want api.Errno
	}{{Edge{Null, 0, -5, 0}, api.ErrLong}, {Edge{1, 1, 0, 0}, api.ErrLong}, {edges[0], api.ErrTwice}, {edges[MaxEdges-1], api.ErrTwice}, {Edge{0, 2, 0, 0}, api.ErrRange}, {Edge{-2, 0, 0, 0}, api.ErrRange}} {
		if e := g.Add(x.Edge); e != x.want {
			t.Errorf("%v: %d, not %d", x.Edge, e, x.want)
		}
	}
	if len(edges) != MaxEdges || !slices.Equal(g.Edges(), edges) {
		t.Errorf("%d edges", len(g.Edges()))
	}
}

// P21.2 to P21.5: a chain of all nodes, and as many edges back.
func TestChain(t *testing.T) {
	g := made(t, MaxNodes, Edge{Null, 0, 0, 0})
	for i := range MaxNodes - 1 {
		if g.Add(Edge{i, i + 1, 0, i}) != api.OK || g.Add(Edge{i + 1, i, 0, i}) != api.OK {
			t.Fatal(i)
		}
	}
	far, path := g.Far(), g.Path(MaxNodes-1)
	for i := range MaxNodes {
		if far[i] != i+1 || path[i].To != i || path[i].From != i-1 {
			t.Fatalf("%d: %d %v", i, far[i], path[i])
		}
	}
	if len(path) != MaxNodes || slices.Contains(g.Solve(), false) || slices.Contains(g.Without(0), true) {
		t.Error("the chain")
	}
	set, cut := g.Shut(MaxNodes / 2)
	if slices.Index(set, false) != MaxNodes/2 || slices.Contains(set[MaxNodes/2:], true) || !slices.Equal(cut, []Edge{{MaxNodes/2 - 1, MaxNodes / 2, 0, MaxNodes/2 - 1}}) || g.Right(set) {
		t.Error("shut")
	}
}

// P21.3: of ways that are longer or shorter.
func TestPath(t *testing.T) {
	g := made(t, 7, Edge{Null, 0, 1, 1}, Edge{0, 1, 2, 2}, Edge{1, 2, 3, 3}, Edge{2, 3, 4, 4}, Edge{3, 1, 5, 5}, Edge{4, 3, 6, 6}, Edge{4, 4, 7, 7}, Edge{3, 3, 8, 8}, Edge{Null, 2, 9, 9}, Edge{5, 0, 10, 10})
	for node, want := range [][]int{{1}, {1, 2}, {9}, {9, 4}, nil, nil, nil} {
		var got []int
		for _, e := range g.Path(node) {
			got = append(got, e.Why)
		}
		if !slices.Equal(got, want) {
			t.Errorf("%d: %v, not %v", node, got, want)
		}
	}
	for _, node := range []int{math.MinInt, Null, 7, math.MaxInt} {
		if list := g.Path(node); len(list) != 0 {
			t.Errorf("%d: %v", node, list)
		}
	}
	if far := g.Far(); !slices.Equal(far, []int{1, 2, 1, 2, -1, -1, -1}) {
		t.Errorf("%v", far)
	}
	hold(t, g)
}

// P21.2, P21.4, P21.5: numbers that mean nothing, and sets that aren't as many as the nodes.
func TestWrong(t *testing.T) {
	g := made(t, 3, Edge{Null, 0, 0, 0}, Edge{0, 1, 0, 0})
	all := []bool{true, true, false}
	for _, n := range []int{math.MinInt, -1, 2, 3, math.MaxInt} {
		if !slices.Equal(g.Without(n), all) {
			t.Errorf("Without %d", n)
		}
	}
	if set, cut := g.Shut(math.MinInt, -1, 3, math.MaxInt); !slices.Equal(set, all) || len(cut) != 0 {
		t.Errorf("%v %v", set, cut)
	}
	if set, cut := g.Shut(); !slices.Equal(set, all) || len(cut) != 0 {
		t.Errorf("%v %v", set, cut)
	}
	if set, cut := g.Shut(1, -1, 1, 1); !slices.Equal(set, []bool{true, false, false}) || !slices.Equal(cut, []Edge{{0, 1, 0, 0}}) {
		t.Errorf("%v %v", set, cut)
	}
	if set, cut := g.Shut(0, 1); slices.Contains(set, true) || !slices.Equal(cut, []Edge{{Null, 0, 0, 0}}) {
		t.Errorf("%v %v", set, cut)
	}
	for _, set := range [][]bool{nil, {}, {true, true}, {true, true, true, true}, {false, true, true}, {true, false, false}} {
		if g.Right(set) {
			t.Errorf("%v is right", set)
		}
	}
	for _, set := range [][]bool{{true, true, false}, {true, true, true}} {
		if !g.Right(set) {
			t.Errorf("%v isn't right", set)
		}
	}
	if g := made(t, 0); !g.Right(nil) || !g.Right([]bool{}) || g.Right([]bool{false}) || len(g.Solve()) != 0 || len(g.Path(0)) != 0 {
		t.Error("of no nodes")
	}
}

// The chapter's example.
func TestExample(t *testing.T) {
	g := made(t, 3, Edge{Null, 1, 0, 0}, Edge{1, 0, 0, 0})
	if !slices.Equal(g.Solve(), []bool{true, true, false}) {
		t.Error("Solve")
	}
	if set, cut := g.Shut(1); slices.Contains(set, true) || !slices.Equal(cut, []Edge{{Null, 1, 0, 0}}) {
		t.Error("Shut")
	}
}

// P2: what is answered is new memory, and what is handed in is neither changed nor kept.
func TestNewMemory(t *testing.T) {
	edges := []Edge{{Null, 0, 1, 1}, {0, 1, 2, 2}, {1, 2, 3, 3}, {Null, 3, 4, 4}}
	g := made(t, 5, edges...)
	shut, right := []int{2, 3, 9, -1}, []bool{true, true, true, true, false}
	for range 2 {
		list, path, far, set, without := g.Edges(), g.Path(2), g.Far(), g.Solve(), g.Without(1)
		open, cut := g.Shut(shut...)
		if !g.Right(right) || !slices.Equal(shut, []int{2, 3, 9, -1}) || !slices.Equal(right, []bool{true, true, true, true, false}) {
			t.Fatal("what is handed in")
		}
		if !slices.Equal(list, edges) || !slices.Equal(path, edges[:3]) || !slices.Equal(far, []int{1, 2, 3, 1, -1}) || !slices.Equal(set, right) || !slices.Equal(without, []bool{true, false, false, true, false}) || !slices.Equal(open, []bool{true, true, false, false, false}) || !slices.Equal(cut, edges[2:]) {
			t.Fatal("what is answered")
		}
		for _, l := range [][]Edge{list[:cap(list)], path[:cap(path)], cut[:cap(cut)]} {
			for i := range l {
				l[i] = Edge{9, 9, 9, 9}
			}
		}
		for _, l := range [][]bool{set, without, open} {
			for i := range l {
				l[i] = !l[i]
			}
		}
		for i := range far {
			far[i] = 99
		}
	}
}

// P2: two graphs have nothing in common.
func TestApart(t *testing.T) {
	a, b := made(t, 2, Edge{Null, 0, 0, 0}), made(t, 2)
	if len(b.Edges()) != 0 || b.Solve()[0] || b.Add(Edge{Null, 0, 0, 0}) != api.OK || b.Add(Edge{0, 1, 0, 0}) != api.OK || a.Solve()[1] {
		t.Error("they share edges")
	}
}
