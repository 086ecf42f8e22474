package tree

import (
	"reflect"
	"slices"
	"testing"

	"caulker/api"
)

// P7.5: Marked, of programs of all kinds.
func TestMarked(t *testing.T) {
	c := newChance(4)
	for range 1000 {
		strict := c.Intn(2) == 0
		g := c.program(1+c.Intn(5), strict)
		p := g.tree()
		at, ok := Marked(p)
		m := g.marked()
		if ok != (m != nil) || !strict && ok {
			t.Fatalf("%s: %t", g.form(), ok)
		}
		if !ok && at != 0 || ok && Form(p, at) != m.form() {
			t.Fatalf("%s: %d %s", g.form(), at, Form(p, at))
		}
		if ok && slices.Index(Walk(p, p.Root), at) != slices.IndexFunc(Walk(p, p.Root), func(i int) bool { return markedAlone(p.Nodes[i]) }) {
			t.Fatalf("%s: %d isn't the first one", g.form(), at)
		}
	}
}

// markedAlone: is it this node that is of the strict language alone?
func markedAlone(n api.Node) bool {
	g := plant{node: n}
	return g.marked() != nil
}

// P7.5: each kind, and each mark, alone.
func TestMarkedEach(t *testing.T) {
	strict := []int{api.Guard, api.Some, api.NoneLit, api.IsSome, api.IsNone, api.Val}
	for kind := 1; kind < api.Kinds; kind++ {
		kids := 0
		for !made(kind, kids) {
			kids++
		}
		p := withKids(kind, kids)
		at, ok := Marked(p)
		if ok != slices.Contains(strict, kind) || ok && at != kids || !ok && at != 0 {
			t.Errorf("%s: %d %t", Name(kind), at, ok)
		}
		if !has(kind, "type") {
			continue
		}
		for _, typ := range newChance(0).types {
			p.Nodes[kids].Type = typ
			at, ok := Marked(p)
			if ok == Plain(typ) || ok && at != kids || !ok && at != 0 {
				t.Errorf("%s of %s: %d %t", Name(kind), TypeText(typ), at, ok)
			}
		}
	}
}

// P7.5: Erase, of programs of all kinds; what it makes is a program, without marks, and the same if there were none.
func TestErase(t *testing.T) {
	c := newChance(5)
	for range 1000 {
		g := c.program(1+c.Intn(6), c.Intn(4) > 0)
		p := g.tree()
		e := Erase(p)
		want := g.erased()
		if Check(e) != api.OK || Form(e, e.Root) != want.form() {
			t.Fatalf("%s: %d %s, not %s", g.form(), Check(e), Form(e, e.Root), want.form())
		}
		if _, ok := Marked(e); ok {
			t.Fatalf("%s has marks", Form(e, e.Root))
		}
		if _, ok := Marked(p); !ok && !Same(p, e) {
			t.Fatalf("%s isn't %s", Form(e, e.Root), g.form())
		}
		if !Same(e, Erase(e)) {
			t.Fatalf("%s is erased once more", Form(e, e.Root))
		}
		kept(t, e, want)
	}
}

// kept: the nodes that stay keep where they stand, and their number. A node of null that was put in stands somewhere.
func kept(t *testing.T, e api.Tree, want *plant) {
	t.Helper()
	list := want.grown(nil)
	order := walkOf(e, e.Root)
	wanted := walkOf(api.Tree{Nodes: list}, len(list)-1)
	for i, at := range order {
		got, n := e.Nodes[at], list[wanted[i]]
		put := n.Kind == api.NullLit && n.Span == api.Span{} && n.N == 0
		if !put && (got.Span != n.Span || got.N != n.N) {
			t.Fatalf("%s stands at %v, has %d, not at %v, %d", Form(e, at), got.Span, got.N, n.Span, n.N)
		}
		if got.Where != n.Where || !slices.Equal(got.Ends, n.Ends) {
			t.Fatalf("%s has its type at %v %v, not at %v %v", Form(e, at), got.Where, got.Ends, n.Where, n.Ends)
		}
	}
}

// P7.5: each of what is left out or held against null.
func TestEraseEach(t *testing.T) {
	x := &plant{node: api.Node{Kind: api.Var, Text: "x", Span: api.Span{From: 3, To: 4}}}
	for _, c := range []struct {
		kind int
		kids []*plant
		want string
	}{
		{api.Guard, []*plant{x}, `(program (var "x"))`},
		{api.Some, []*plant{x}, `(program (var "x"))`},
		{api.Val, []*plant{x}, `(program (var "x"))`},
		{api.NoneLit, nil, `(program (null))`},
		{api.IsSome, []*plant{x}, `(program (binary "!=" (var "x") (null)))`},
		{api.IsNone, []*plant{x}, `(program (binary "==" (var "x") (null)))`},
		{api.Not, []*plant{x}, `(program (not (var "x")))`},
		{api.Ask, []*plant{x}, `(program (ask (var "x")))`},
	} {
		g := &plant{api.Node{Kind: api.Program}, []*plant{{api.Node{Kind: c.kind, Span: api.Span{From: 1, To: 9}, N: 5}, c.kids}}}
		e := Erase(g.tree())
		if got := Form(e, e.Root); got != c.want {
			t.Errorf("%s: %s, not %s", Name(c.kind), got, c.want)
		}
		twice := &plant{api.Node{Kind: api.Program}, []*plant{{api.Node{Kind: api.Guard}, g.kids}}}
		e = Erase(twice.tree())
		if got := Form(e, e.Root); got != c.want {
			t.Errorf("%s, guarded: %s, not %s", Name(c.kind), got, c.want)
		}
	}
}

// P7.5: a program that would have as many nodes as there may be.
func TestEraseMany(t *testing.T) {
	list := []api.Node{{Kind: api.Var, Text: "x"}}
	for len(list) < 8192 {
		list = append(list, api.Node{Kind: api.IsSome, Kids: []int{len(list) - 1}})
	}
	p := api.Tree{Nodes: append(slices.Clone(list), api.Node{Kind: api.Program, Kids: []int{8191}}), Root: 8192}
	if e := Erase(p); Check(e) != api.OK || len(e.Nodes) != 16384 || Depth(e) != 8193 {
		t.Errorf("as many as there may be: %d, %d nodes", Check(e), len(e.Nodes))
	}
	more := append(slices.Clone(list), api.Node{Kind: api.NoneLit}, api.Node{Kind: api.Program, Kids: []int{8191, 8192}})
	if e := Erase(api.Tree{Nodes: more, Root: 8193}); !reflect.DeepEqual(e, api.Tree{}) {
		t.Errorf("one more: %d nodes", len(e.Nodes))
	}
	guards := []api.Node{{Kind: api.Var, Text: "x"}}
	for len(guards) < 16383 {
		guards = append(guards, api.Node{Kind: api.Guard, Kids: []int{len(guards) - 1}})
	}
	e := Erase(api.Tree{Nodes: append(guards, api.Node{Kind: api.Program, Kids: []int{16382}}), Root: 16383})
	if Form(e, e.Root) != `(program (var "x"))` {
		t.Errorf("guards: %d nodes", len(e.Nodes))
	}
}
