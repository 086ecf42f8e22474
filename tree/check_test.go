package tree

import (
	"math"
	"slices"
	"testing"

	"caulker/api"
)

// checkOf is what the document says of Check: of all that is wrong, which comes first: by node, by how it is named, by kid.
func checkOf(p api.Tree) api.Errno {
	n := len(p.Nodes)
	if n > 16384 {
		return api.ErrLong
	}
	if n == 0 || p.Root != n-1 || p.Nodes[n-1].Kind != api.Program {
		return api.ErrForm
	}
	type found struct {
		node, rank, kid int
		code            api.Errno
	}
	all := []found{{n, 0, 0, api.OK}}
	for i, x := range p.Nodes {
		if _, many, _ := listedKind(x.Kind); many == "" {
			all = append(all, found{i, 1, 0, api.ErrMissing})
		}
		if !made(x.Kind, len(x.Kids)) {
			all = append(all, found{i, 2, 0, api.ErrArgs})
		}
		if x.Text != "" && !has(x.Kind, "text") || has(x.Kind, "type") != (TypeText(x.Type) != "") || x.Type.Marks != "" && !has(x.Kind, "type") {
			all = append(all, found{i, 3, 0, api.ErrForm})
		}
		for k, kid := range x.Kids {
			if kid < 0 || kid >= i {
				all = append(all, found{i, 4, 2 * k, api.ErrOrder})
			}
			of := 0
			for j, y := range p.Nodes[:i+1] {
				for l, other := range y.Kids {
					if other == kid && (j < i || l < k) {
						of++
					}
				}
			}
			if of > 0 {
				all = append(all, found{i, 4, 2*k + 1, api.ErrTwice})
			}
		}
		if i < n-1 && !slices.ContainsFunc(p.Nodes, func(y api.Node) bool { return slices.Contains(y.Kids, i) }) {
			all = append(all, found{n - 1, 5, 0, api.ErrMissing})
		}
	}
	first := slices.MinFunc(all, func(a, b found) int {
		return slices.Compare([]int{a.node, a.rank, a.kid}, []int{b.node, b.rank, b.kid})
	})
	return first.code
}

// holdCheck holds Check, and what it refuses, to the document.
func holdCheck(t *testing.T, p api.Tree) {
	t.Helper()
	want := checkOf(p)
	if e := Check(p); e != want {
		t.Fatalf("Check %+v: %d, not %d", p, e, want)
	}
	if want != api.OK && (Depth(p) != 0 || Form(p, p.Root) != "" || Form(p, 0) != "" || Same(p, p)) {
		t.Fatalf("%+v is refused: %d %q %t", p, Depth(p), Form(p, p.Root), Same(p, p))
	}
	Walk(p, p.Root)
	Walk(p, 0)
	Marked(p)
	Erase(p)
}

// kidsToTry are all lists of at most two kids of some.
func kidsToTry(kids ...int) [][]int {
	lists := [][]int{nil}
	for _, a := range kids {
		lists = append(lists, []int{a})
		for _, b := range kids {
			lists = append(lists, []int{a, b})
		}
	}
	return lists
}

// nodesToTry are nodes of each kind, with each of the kids, and each of the texts.
func nodesToTry(kinds []int, kids [][]int, texts ...string) []api.Node {
	var list []api.Node
	for _, kind := range kinds {
		for _, k := range kids {
			for _, text := range texts {
				list = append(list, api.Node{Kind: kind, Kids: k, Text: text})
			}
		}
	}
	return list
}

// P7.2: Check, of all small programs of some kinds, right ones and wrong ones; each call ends of each.
func TestCheckSmall(t *testing.T) {
	holdCheck(t, api.Tree{})
	holdCheck(t, api.Tree{Root: -1})
	few := nodesToTry([]int{0, 46, -1, api.Program, api.Block, api.Guard, api.Var, api.Break}, kidsToTry(-1, 0, 1, 2), "", "x")
	for _, a := range few {
		for _, root := range []int{-1, 0, 1} {
			holdCheck(t, api.Tree{Nodes: []api.Node{a}, Root: root})
		}
		for _, b := range few {
			for _, root := range []int{0, 1} {
				holdCheck(t, api.Tree{Nodes: []api.Node{a, b}, Root: root})
			}
		}
	}
	fewer := nodesToTry([]int{46, api.Program, api.Guard, api.Call}, kidsToTry(-1, 0, 1, 3), "")
	last := nodesToTry([]int{api.Program}, kidsToTry(0, 1, 2), "")
	for _, a := range fewer {
		for _, b := range fewer {
			for _, c := range last {
				holdCheck(t, api.Tree{Nodes: []api.Node{a, b, c}, Root: 2})
			}
		}
	}
}

// P7.2: what is wrong first, of programs in which several things are.
func TestCheckOrder(t *testing.T) {
	v := api.Node{Kind: api.Var}
	wrong := api.Type{Base: api.Int}
	for i, x := range []struct {
		nodes []api.Node
		want  api.Errno
	}{
		{[]api.Node{{Kind: api.Program}}, api.OK},
		{[]api.Node{{Kind: api.ClassOf}}, api.ErrForm},
		{[]api.Node{v, {Kind: api.Program, Kids: []int{0}}}, api.OK},
		{[]api.Node{{Kind: api.Program}, {Kind: api.Program, Kids: []int{0}}}, api.OK},
		{[]api.Node{v, {Kind: api.Program}}, api.ErrMissing},
		{[]api.Node{v, {Kind: api.Program, Kids: []int{0, 0}}}, api.ErrTwice},
		{[]api.Node{v, {Kind: api.Program, Kids: []int{0, 1}}}, api.ErrOrder},
		{[]api.Node{v, {Kind: api.Program, Kids: []int{1, 0, 0}}}, api.ErrOrder},
		{[]api.Node{v, {Kind: api.Program, Kids: []int{0, 0, 1}}}, api.ErrTwice},
		{[]api.Node{v, {Kind: api.Program, Kids: []int{math.MinInt}}}, api.ErrOrder},
		{[]api.Node{v, {Kind: api.Program, Kids: []int{math.MaxInt}}}, api.ErrOrder},
		{[]api.Node{v, {Kind: 46}, {Kind: api.Program}}, api.ErrMissing},
		{[]api.Node{v, {Kind: 46, Kids: []int{7}, Text: "x", Type: wrong}, {Kind: api.Program}}, api.ErrMissing},
		{[]api.Node{v, {Kind: api.Guard, Kids: []int{7, 7}, Text: "x", Type: wrong}, {Kind: 46}, {Kind: api.Program}}, api.ErrArgs},
		{[]api.Node{v, {Kind: api.Guard, Kids: []int{7}, Text: "x", Type: wrong}, {Kind: 46}, {Kind: api.Program}}, api.ErrForm},
		{[]api.Node{v, {Kind: api.Guard, Kids: []int{7}}, {Kind: 46}, {Kind: api.Program}}, api.ErrOrder},
		{[]api.Node{v, {Kind: api.Binary, Kids: []int{0, 0}}, {Kind: 46}, {Kind: api.Program}}, api.ErrTwice},
		{[]api.Node{v, {Kind: api.Guard, Kids: []int{0}}, {Kind: api.Guard, Kids: []int{0}}, {Kind: 46}, {Kind: api.Program}}, api.ErrTwice},
		{[]api.Node{v, {Kind: 46}, {Kind: api.Block}}, api.ErrForm},
	} {
		p := api.Tree{Nodes: x.nodes, Root: len(x.nodes) - 1}
		if e := Check(p); e != x.want {
			t.Errorf("%d: %d, not %d", i, e, x.want)
		}
		holdCheck(t, p)
	}
	for _, root := range []int{math.MinInt, -1, 0, 2, math.MaxInt} {
		if e := Check(api.Tree{Nodes: []api.Node{v, {Kind: api.Program, Kids: []int{0}}}, Root: root}); e != api.ErrForm {
			t.Errorf("Root %d: %d", root, e)
		}
	}
}

// chain is a program in which so many stand one in the other.
func chain(n int) api.Tree {
	list := []api.Node{{Kind: api.Var, Text: "x"}}
	for i := range n - 2 {
		list = append(list, api.Node{Kind: api.Not, Kids: []int{i}})
	}
	return api.Tree{Nodes: append(list, api.Node{Kind: api.Program, Kids: []int{n - 2}}), Root: n - 1}
}

// P7.2 to P7.4: as many nodes as there may be, all in one another, and one more. That is told ahead of all else.
func TestManyNodes(t *testing.T) {
	p := chain(16384)
	if Check(p) != api.OK || Depth(p) != 16384 || len(Walk(p, p.Root)) != 16384 || len(Form(p, p.Root)) != len(`(program (var "x"))`)+16382*len("(not )") || !Same(p, p) {
		t.Errorf("as many as there may be: %d %d", Check(p), Depth(p))
	}
	p = chain(16385)
	if Check(p) != api.ErrLong || Depth(p) != 0 || Form(p, p.Root) != "" || Form(p, 0) != "" || Same(p, p) {
		t.Errorf("one more: %d", Check(p))
	}
	if e := Check(api.Tree{Nodes: make([]api.Node, 16385), Root: -7}); e != api.ErrLong {
		t.Errorf("one more, of no kind: %d", e)
	}
	if e := Check(api.Tree{Nodes: make([]api.Node, 16384), Root: 16383}); e != api.ErrForm {
		t.Errorf("of no kind: %d", e)
	}
}

// walkOf is what the document says of Walk.
func walkOf(p api.Tree, at int) []int {
	list := []int{at}
	for _, kid := range p.Nodes[at].Kids {
		list = append(list, walkOf(p, kid)...)
	}
	return list
}

// P7.4: Walk and Depth, of programs of all kinds.
func TestWalk(t *testing.T) {
	c := newChance(1)
	for range 300 {
		g := c.program(1+c.Intn(6), true)
		p := g.tree()
		if Check(p) != api.OK || Depth(p) != g.deep() {
			t.Fatalf("%d, Depth %d, not %d", Check(p), Depth(p), g.deep())
		}
		for at := range p.Nodes {
			if got := Walk(p, at); !slices.Equal(got, walkOf(p, at)) {
				t.Fatalf("Walk %d: %v, not %v", at, got, walkOf(p, at))
			}
		}
		for _, at := range []int{math.MinInt, -1, len(p.Nodes), math.MaxInt} {
			if got := Walk(p, at); len(got) != 0 {
				t.Fatalf("Walk %d: %v", at, got)
			}
		}
	}
	if Depth(api.Tree{Nodes: []api.Node{{Kind: api.Program}}}) != 1 {
		t.Error("Depth of a program without classes")
	}
}

// P1: what isn't a program doesn't keep one walking.
func TestWalkEnds(t *testing.T) {
	round := api.Tree{Nodes: []api.Node{{Kind: api.Not, Kids: []int{0}}, {Kind: api.Not, Kids: []int{2}}, {Kind: api.Program, Kids: []int{1}}}, Root: 2}
	var double api.Tree
	for i := range 60 {
		double.Nodes = append(double.Nodes, api.Node{Kind: api.Program, Kids: []int{i - 1, i - 1}})
	}
	double.Nodes[0].Kids = nil
	double.Root = 59
	long := api.Tree{Nodes: make([]api.Node, 1<<20), Root: 1<<20 - 1}
	for i := range long.Nodes {
		long.Nodes[i] = api.Node{Kind: api.Program, Kids: []int{i}}
	}
	for _, p := range []api.Tree{round, double, long, {}} {
		for _, at := range []int{-1, 0, 1, 2, len(p.Nodes) - 1} {
			Walk(p, at)
			Form(p, at)
		}
		Marked(p)
		Erase(p)
		if Check(p) == api.OK || Depth(p) != 0 {
			t.Error("it is let stand")
		}
	}
}
