package tree

import (
	"math"
	"testing"

	"caulker/api"
)

// P7.3: Form, of each node of programs of all kinds.
func TestForms(t *testing.T) {
	c := newChance(2)
	for range 500 {
		g := c.program(1+c.Intn(6), true)
		p := g.tree()
		if got := Form(p, p.Root); got != g.form() {
			t.Fatalf("%s, not %s", got, g.form())
		}
		var each func(g *plant, from int) int
		each = func(g *plant, from int) int {
			for _, kid := range g.kids {
				from = each(kid, from)
			}
			if got := Form(p, from); got != g.form() {
				t.Fatalf("%d: %s, not %s", from, got, g.form())
			}
			return from + 1
		}
		each(g, 0)
		for _, at := range []int{math.MinInt, -1, len(p.Nodes), math.MaxInt} {
			if got := Form(p, at); got != "" {
				t.Fatalf("Form %d: %s", at, got)
			}
		}
	}
}

// formOf is the form of one node, alone in a program.
func formOf(n api.Node) string {
	p := api.Tree{Nodes: []api.Node{n, {Kind: api.Program, Kids: []int{0}}}, Root: 1}
	return Form(p, 0)
}

// P7.3: how texts, types and numbers stand in a form.
func TestFormHas(t *testing.T) {
	void := api.Type{Base: api.Void, Marks: " "}
	for _, x := range []struct {
		node api.Node
		want string
	}{
		{api.Node{Kind: api.StrLit, Text: "a \"b\"\\\n\t"}, `(str "a \"b\"\\\n\t")`},
		{api.Node{Kind: api.StrLit, Text: "\x00\x7f\xffä"}, `(str "\x00\x7f\xffä")`},
		{api.Node{Kind: api.StrLit}, `(str "")`},
		{api.Node{Kind: api.StrLit, Text: "x", N: 7}, `(str "x")`},
		{api.Node{Kind: api.IntLit}, "(int 0)"},
		{api.Node{Kind: api.IntLit, N: math.MinInt64}, "(int -9223372036854775808)"},
		{api.Node{Kind: api.IntLit, N: math.MaxInt64, Span: api.Span{From: 1, To: 2}}, "(int 9223372036854775807)"},
		{api.Node{Kind: api.BoolLit, N: 1}, "(bool 1)"},
		{api.Node{Kind: api.BoolLit, N: -2}, "(bool -2)"},
		{api.Node{Kind: api.DoubleLit, Text: "1.50", N: 9}, `(double "1.50")`},
		{api.Node{Kind: api.NullLit, N: 5}, "(null)"},
		{api.Node{Kind: api.Field, Text: "x", Type: api.Type{Base: api.Class, Name: "C", Dims: 1, Marks: "?o"}}, `(field "x" Option<C?[]>)`},
		{api.Node{Kind: api.New, Type: api.Type{Base: api.Class, Name: "C", Marks: " "}, Ends: []int{3}}, "(new C)"},
		{api.Node{Kind: api.Param, Text: "", Type: void, Where: api.Span{From: 3, To: 4}}, `(param "" void)`},
		{api.Node{Kind: api.Super}, "(super)"},
		{api.Node{Kind: api.Kinds}, ""},
		{api.Node{Kind: api.Field, Text: "x"}, ""},
	} {
		if got := formOf(x.node); got != x.want {
			t.Errorf("%s, not %s", got, x.want)
		}
	}
}

// P7.3: Same: what stands elsewhere is the same, what has another text, type, number or order isn't.
func TestSame(t *testing.T) {
	c := newChance(3)
	var last api.Tree
	for range 300 {
		g := c.program(1+c.Intn(5), true)
		a, b := g.tree(), g.tree()
		for i := range b.Nodes {
			n := &b.Nodes[i]
			n.Span, n.Where, n.Ends = api.Span{From: i}, api.Span{To: i}, []int{i, i}
			if n.Kind != api.IntLit && n.Kind != api.BoolLit {
				n.N++
			}
		}
		if !Same(a, b) || !Same(b, a) {
			t.Fatalf("%s isn't the same elsewhere", g.form())
		}
		if Same(a, last) != (Form(a, a.Root) == Form(last, last.Root)) {
			t.Fatalf("Same of %s and another", g.form())
		}
		last = a
		for i, n := range b.Nodes {
			b.Nodes[i] = changed(n)
			if Form(a, a.Root) != Form(b, b.Root) && (Same(a, b) || Same(b, a)) {
				t.Fatalf("another node %d is the same, in %s", i, g.form())
			}
			b.Nodes[i] = n
		}
	}
	wrong := api.Tree{Nodes: []api.Node{{Kind: api.Block}}}
	right := api.Tree{Nodes: []api.Node{{Kind: api.Program}}}
	if Same(wrong, wrong) || Same(wrong, right) || Same(right, wrong) || Same(api.Tree{}, api.Tree{}) || !Same(right, right) {
		t.Error("what is refused is the same as something")
	}
}

// changed is a node with something else.
func changed(n api.Node) api.Node {
	switch {
	case has(n.Kind, "text"):
		n.Text += " "
	case has(n.Kind, "type"):
		n.Type = api.Type{Base: api.Double, Dims: 4, Marks: " ????"}
	case n.Kind == api.Break:
		n.Kind = api.Continue
	default:
		n.N++
	}
	return n
}

// P7.3: nodes that have the same bytes in all, but not at the same places.
func TestNotSame(t *testing.T) {
	of := func(texts ...string) api.Tree {
		list := []api.Node{}
		kids := []int{}
		for i, text := range texts {
			list = append(list, api.Node{Kind: api.StrLit, Text: text})
			kids = append(kids, i)
		}
		return api.Tree{Nodes: append(list, api.Node{Kind: api.Program, Kids: kids}), Root: len(texts)}
	}
	all := []api.Tree{of(), of(""), of("a", "b"), of("b", "a"), of("ab"), of("", "ab"), of(`a") (str "b`), of(`a\") (str \"b`), of("\xff"), of(`\xff`), of("\ufffd"), of("\u00ff")}
	for i, a := range all {
		for j, b := range all {
			if Same(a, b) != (i == j) {
				t.Errorf("%s and %s", Form(a, a.Root), Form(b, b.Root))
			}
		}
	}
}

// The chapter's example.
func TestExample(t *testing.T) {
	var b Builder
	x, _ := b.Add(api.Node{Kind: api.Field, Text: "x", Type: api.Type{Base: api.Class, Name: "C", Marks: "?"}})
	c, _ := b.Add(api.Node{Kind: api.ClassOf, Text: "C", Kids: []int{x}})
	b.Add(api.Node{Kind: api.Program, Kids: []int{c}})
	p := b.Tree()
	if got := Form(p, p.Root); got != `(program (class "C" (field "x" C?)))` {
		t.Error(got)
	}
	e := Erase(p)
	if got := Form(e, e.Root); got != `(program (class "C" (field "x" C)))` {
		t.Error(got)
	}
}
