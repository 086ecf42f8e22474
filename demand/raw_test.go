package demand

import (
	"math"
	"slices"
	"strconv"
	"strings"
	"testing"
	"unsafe"

	"caulker/api"
	"caulker/base"
	"caulker/strict"
	"caulker/tree"
)

// P1: numbers of nodes that are no parameters, or that there aren't.
func TestNumbers(t *testing.T) {
	x := known(t, main+"class A { int n; void g(A a, A b) { print(a.n); } }")
	r := find(t, x)
	for node := -3; node < x.Len()+3; node++ {
		n := x.Node(node)
		if want := n.Kind == api.Param && n.Text == "a"; r.Alone(node) != want || r.Is(node) != want {
			t.Errorf("%d: %t, %t", node, r.Alone(node), r.Is(node))
		}
	}
	for _, node := range []int{math.MinInt, math.MinInt64, math.MaxInt32, math.MaxInt} {
		if r.Alone(node) || r.Is(node) {
			t.Error(node)
		}
	}
}

// grown is a program that is made node by node.
type grown struct{ nodes []api.Node }

// add is a node more.
func (g *grown) add(kind int, text string, kids ...int) int {
	g.nodes = append(g.nodes, api.Node{Kind: kind, Text: text, Kids: kids})
	return len(g.nodes) - 1
}

// typed is a node more, of a type that is made of Main.
func (g *grown) typed(kind int, text, marks string, kids ...int) int {
	i := g.add(kind, text, kids...)
	g.nodes[i].Type = api.Type{Base: api.Class, Name: "Main", Dims: len(marks) - 1, Marks: marks}
	return i
}

// asks is a statement that asks a call of a local.
func (g *grown) asks(name string) int {
	return g.add(api.Expr, "", g.add(api.Call, "main", g.add(api.Var, name)))
}

// program is the whole: a Main with these members, and these other classes.
func (g *grown) program(t *testing.T, members []int, classes ...int) *base.Info {
	t.Helper()
	block := g.add(api.Block, "", g.add(api.Return, "", g.add(api.IntLit, "")))
	main := g.add(api.Method, "main", block)
	g.nodes[main].Type = api.Type{Base: api.Int, Marks: " "}
	p := api.Tree{Root: g.add(api.Program, "", append(classes, g.add(api.ClassOf, "Main", append(members, main)...))...), Nodes: g.nodes}
	x, f := base.Of(p)
	if x == nil {
		t.Fatal(f)
	}
	return x
}

// method is one that answers nothing.
func (g *grown) method(name string, params []int, statements ...int) int {
	m := g.add(api.Method, name, append(params, g.add(api.Block, "", statements...))...)
	g.nodes[m].Type = api.Type{Base: api.Void, Marks: " "}
	return m
}

// P23.3: places are told by their nodes, not in the order in which the parameters stand.
func TestRawOrder(t *testing.T) {
	g := &grown{}
	c := g.typed(api.Param, "c", "  ")
	a := g.typed(api.Param, "a", " ")
	b := g.typed(api.Param, "b", "     ")
	var list []int
	for _, name := range []string{"b", "c"} {
		list = append(list, g.add(api.Expr, "", g.add(api.Call, "f", g.add(api.This, ""), g.add(api.Length, "", g.add(api.Var, name)))))
	}
	i := g.add(api.Param, "i")
	g.nodes[i].Type = api.Type{Base: api.Int, Marks: " "}
	f := g.method("f", []int{i})
	x := g.program(t, []int{g.method("g", []int{b, a, c}, append(list, g.asks("a"))...), f})
	r := find(t, x)
	if want := []strict.Place{{Node: c, Layer: 1}, {Node: a}, {Node: b, Layer: 4}}; !slices.Equal(r.Places(), want) {
		t.Errorf("%v, not %v", r.Places(), want)
	}
}

// P1, P23.2: many methods that go over one another, of all of which a parameter is demanded, or of all but the last.
func TestChain(t *testing.T) {
	for _, last := range []bool{true, false} {
		const n = 600
		g := &grown{}
		var classes, params []int
		for i := range n {
			kids := []int{g.add(api.Ancestor, "c"+strconv.Itoa(i+1))}
			a := g.typed(api.Param, "a", " ")
			params = append(params, a)
			if i > 0 || last {
				kids = append(kids, g.method("g", []int{a}, g.asks("a")))
			} else {
				kids = append(kids, g.method("g", []int{a}))
			}
			classes = append(classes, g.add(api.ClassOf, "c"+strconv.Itoa(i), kids...))
		}
		x := g.program(t, nil, append(classes, g.add(api.ClassOf, "c"+strconv.Itoa(n)))...)
		r, f := Find(x)
		if r == nil {
			t.Fatal(f)
		}
		for i, a := range params {
			if r.Alone(a) != (i > 0 || last) || r.Is(a) != last {
				t.Fatalf("%d: %t, %t", i, r.Alone(a), r.Is(a))
			}
		}
		if want := map[bool]int{true: n}[last]; len(r.Places()) != want {
			t.Errorf("%d, not %d", len(r.Places()), want)
		}
	}
}

// P1, P23.1: as many parameters, and as many returns, as a body may have.
func TestMany(t *testing.T) {
	var params, asked, returns strings.Builder
	for i := range 64 {
		params.WriteString(", A p" + strconv.Itoa(i))
		asked.WriteString("p" + strconv.Itoa(i) + ".n = 1; ")
		if i > 0 {
			returns.WriteString("if (input() > 0) { return; } p" + strconv.Itoa(i) + ".n = 1; ")
		}
	}
	x := known(t, main+"class A { int n; void g("+params.String()[2:]+") { "+asked.String()+"} void h("+params.String()[2:]+") { p0.n = 1; "+returns.String()+"} }")
	r := find(t, x)
	if len(r.Places()) != 65 {
		t.Errorf("%v", r.Places())
	}
}

// all tells all that a result answers.
func answers(r *Result, n int) string {
	text := ""
	for node := range n {
		text += strconv.FormatBool(r.Alone(node)) + strconv.FormatBool(r.Is(node))
	}
	for _, p := range r.Places() {
		text += strconv.Itoa(p.Node) + " " + strconv.Itoa(p.Layer)
	}
	return text
}

// P2: what is handed in is neither changed nor kept, and what is answered is new memory.
func TestMemory(t *testing.T) {
	x := known(t, main+"class A { int n; void g(A a, A b, A[] c) { print(a.n + c.length); } } class B extends A { void g(A a, A b, A[] c) { print(a.n + b.n); } }")
	before := x.Tree()
	r := find(t, x)
	if !tree.Same(before, x.Tree()) || x.Tree().Nodes[0].Type.Marks != before.Nodes[0].Type.Marks {
		t.Error("it is changed")
	}
	want := answers(r, x.Len())
	list := r.Places()
	for i := range list[:cap(list)] {
		list[:cap(list)][i] = strict.Place{Node: 99}
	}
	n := x.Len()
	other := find(t, known(t, main+"class A { int n; void g(A a, A b, A[] c) { print(b.n); } }"))
	*x = base.Info{}
	if got := answers(r, n); got != want || answers(other, n) == want {
		t.Errorf("%s, not %s", got, want)
	}
}

// P2: texts that a program was made of may change behind the call.
func TestTexts(t *testing.T) {
	bytes := []byte("Maingab")
	view := func(from, to int) string { return unsafe.String(&bytes[from], to-from) }
	g := &grown{}
	a := g.typed(api.Param, view(5, 6), " ")
	g.nodes[a].Type.Name = view(0, 4)
	x := g.program(t, []int{g.method(view(4, 5), []int{a}, g.asks(view(5, 6)))})
	r := find(t, x)
	for i := range bytes {
		bytes[i] = '-'
	}
	g.nodes[a].Kind = api.Field
	if !r.Is(a) || !r.Alone(a) || !slices.Equal(r.Places(), []strict.Place{{Node: a}}) {
		t.Error("it is kept")
	}
}
