package infer

import (
	"math"
	"slices"
	"strings"
	"testing"

	"caulker/api"
	"caulker/strict"
	"caulker/tree"
)

// P22.1: of all nodes that have types, in order; but of News none.
func TestPlaces(t *testing.T) {
	for _, x := range []struct{ text, want string }{
		{"", ""},
		{"class A { int n; bool b; double d; str s; void v() { int i; } A a; init(A p, int q) { } }", "a0 p0"},
		{"class A { A a; A[] b; A[][][][] c; int[] d; str[][] e; }", "a0 b0 b1 c0 c1 c2 c3 c4 d1 e1 e2"},
		{"class A { A? a; A?[]? b; A?[] c; Option<A> d; Option<A[]> e; int[]? f; Option<int[][]?[]> g; }", "a0 b0 b1 c0 c1 d0 e0 e1 f1 g1 g2 g3"},
		{"class A { A m(A a, A[] b) { A c = new A(); return cast<A>(c); } int[] n() { int[] k = @1new int[2]; A[][] l = @2new A[][2]; return @3cast<int[]>(k); } }", "a0 b0 b1 c0 cast0 A.m0 k1 array20 array21 l0 l1 l2 cast31 A.n1"},
	} {
		text, marks := labels(main + x.text)
		p := known(t, text)
		var list []string
		for _, at := range Places(p.Tree()) {
			list = append(list, said(p, marks, at))
		}
		if got := strings.Join(list, " "); got != x.want {
			t.Errorf("%s: %s, not %s", x.text, got, x.want)
		}
	}
}

// P22.1: marks where they may be, and nothing else.
func TestMark(t *testing.T) {
	const text = main + "class A { int n; int[] i; A a; A?[][] b; Option<A[]> o; A m(A p) { A c = new A(); A[] d = new A[2]; return cast<A>(c); } }"
	x := known(t, text)
	all := Places(x.Tree())
	for _, p := range []struct{ names, want string }{
		{"", text},
		{"nobody", text},
		{"a0", strings.Replace(text, "A a;", "A? a;", 1)},
		{"i1 p0 i1", strings.Replace(strings.Replace(text, "int[] i;", "int[]? i;", 1), "A p)", "A? p)", 1)},
		{"b0", text},
		{"b2 b0 b1", strings.Replace(text, "A?[][] b;", "A?[]?[]? b;", 1)},
		{"o1", text},
		{"o0 o1", strings.Replace(text, "Option<A[]>", "Option<A?[]>", 1)},
		{"A.m0 array0 cast0", strings.NewReplacer("A m(", "A? m(", "new A[2]", "new A?[2]", "cast<A>", "cast<A?>").Replace(text)},
		{"d0 d1 c0", strings.NewReplacer("A[] d", "A?[]? d", "A c", "A? c").Replace(text)},
	} {
		var list []strict.Place
		for _, name := range strings.Fields(p.names) {
			list = append(list, place(x, nil, name))
		}
		if got := Mark(x.Tree(), list...); !tree.Same(got, known(t, p.want).Tree()) {
			t.Errorf("%s: %s", p.names, tree.Form(got, got.Root))
		}
	}
	once := Mark(x.Tree(), all...)
	if len(all) != 14 || !alike(once, x.Tree()) || !alike(Mark(once, all...), once) || len(Places(once)) != len(all) {
		t.Errorf("%d places, %s", len(all), tree.Form(once, once.Root))
	}
	for _, p := range all {
		if once.Nodes[p.Node].Type.Marks[p.Layer] == api.Plain {
			t.Errorf("%v has no mark", p)
		}
	}
}

// alike: are the nodes of two programs the same but for their marks?
func alike(a, b api.Tree) bool {
	return a.Root == b.Root && slices.EqualFunc(a.Nodes, b.Nodes, func(m, n api.Node) bool {
		m.Type.Marks, n.Type.Marks = "", ""
		return m.Kind == n.Kind && m.Span == n.Span && slices.Equal(m.Kids, n.Kids) && m.Text == n.Text && m.Type == n.Type && m.N == n.N && m.Where == n.Where && slices.Equal(m.Ends, n.Ends)
	})
}

// P22.1: places that aren't there.
func TestNoPlaces(t *testing.T) {
	x := known(t, main+"class A { A[] a; void m() { new A(); } }")
	p := x.Tree()
	list := []strict.Place{strict.Nowhere(), {}, {Node: -1}, {Node: math.MinInt}, {Node: math.MaxInt, Layer: math.MaxInt}, {Node: x.Len()}, {Node: x.Len() - 1}, {Layer: 1}}
	for node, n := range p.Nodes {
		for _, layer := range []int{math.MinInt, -1, 0, 1, 2, 3, 5, math.MaxInt} {
			if n.Kind != api.Field || layer < 0 || layer > 1 {
				list = append(list, strict.Place{Node: node, Layer: layer})
			}
		}
	}
	if got := Mark(p, list...); !alike(got, p) || !tree.Same(got, p) {
		t.Errorf("%s", tree.Form(got, got.Root))
	}
}

// P1, P22.1: programs that no Check lets stand.
func TestRawPlaces(t *testing.T) {
	class := func(marks string, dims int) api.Type {
		return api.Type{Base: api.Class, Name: "A", Dims: dims, Marks: marks}
	}
	p := api.Tree{Root: -7, Nodes: []api.Node{
		{Kind: api.Field, Type: class("", 0)}, {Kind: api.Field, Type: class("  ", 0)}, {Kind: api.Field, Type: class(" ", -1)}, {Kind: api.Field, Type: class(" ", math.MaxInt)}, {Kind: api.Field, Type: class("      ", 5)},
		{Kind: -5, Type: class(" ", 0)}, {Kind: 99, Kids: []int{-1, 99}, Type: class(" o", 1)}, {Kind: api.Var, Type: class("?", 0)}, {Kind: api.New, Type: class("  ", 1)}, {Kind: api.Field, Type: api.Type{Base: api.Null, Marks: "?"}},
		{Kind: api.Field, Type: api.Type{Base: api.Int, Dims: 1, Marks: "? "}}, {Kind: api.Field, Type: api.Type{Base: api.Int, Dims: 1, Marks: "  "}}, {Kind: api.Field, Type: class("x", 0)}, {Kind: api.Field, Type: api.Type{Base: api.Void, Marks: " "}},
	}}
	want := []strict.Place{{Node: 5, Layer: 0}, {Node: 6, Layer: 0}, {Node: 6, Layer: 1}, {Node: 7, Layer: 0}, {Node: 11, Layer: 1}}
	if got := Places(p); !slices.Equal(got, want) {
		t.Errorf("%v", got)
	}
	var all []strict.Place
	for node := range 16 {
		for layer := range 7 {
			all = append(all, strict.Place{Node: node - 1, Layer: layer - 1})
		}
	}
	got := Mark(p, all...)
	for node, n := range got.Nodes {
		marks := p.Nodes[node].Type.Marks
		switch node {
		case 5:
			marks = "?"
		case 6:
			marks = "?o"
		case 11:
			marks = " ?"
		}
		if n.Type.Marks != marks {
			t.Errorf("%d: %q", node, n.Type.Marks)
		}
	}
	if !alike(got, p) {
		t.Error("more is changed")
	}
	if got := Mark(api.Tree{}, all...); len(got.Nodes) != 0 || len(Places(api.Tree{})) != 0 {
		t.Error("of nothing")
	}
}
