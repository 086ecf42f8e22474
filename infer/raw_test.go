package infer

import (
	"math"
	"strconv"
	"strings"
	"testing"

	"caulker/api"
	"caulker/base"
	"caulker/graph"
	"caulker/strict"
)

// grown is a program that is made node by node.
type grown struct{ nodes []api.Node }

// add is a node more.
func (g *grown) add(kind int, text string, kids ...int) int {
	g.nodes = append(g.nodes, api.Node{Kind: kind, Span: api.Span{From: 1000 + len(g.nodes)}, Text: text, Kids: kids})
	return len(g.nodes) - 1
}

// typed is a node more, of a type that is made of Main, or of a base.
func (g *grown) typed(kind int, text string, of int, marks string, kids ...int) int {
	i := g.add(kind, text, kids...)
	g.nodes[i].Type = api.Type{Base: of, Dims: len(marks) - 1, Marks: marks}
	if of == api.Class {
		g.nodes[i].Type.Name = "Main"
	}
	return i
}

// program is the whole: a Main with these members, whose main has these statements.
func (g *grown) program(t *testing.T, members []int, statements ...int) *base.Info {
	t.Helper()
	block := g.add(api.Block, "", append(statements, g.add(api.Return, "", g.add(api.IntLit, "")))...)
	main := g.typed(api.Method, "main", api.Int, " ", block)
	p := api.Tree{Root: g.add(api.Program, "", g.add(api.ClassOf, "Main", append(members, main)...)), Nodes: g.nodes}
	x, f := base.Of(p)
	if x == nil {
		t.Fatal(f)
	}
	return x
}

// P22.2: of two layers one may have no mark, as it isn't written.
func TestRawDiffer(t *testing.T) {
	for _, x := range []struct {
		decl, fresh string
		right       bool
	}{{"  ", "  ", true}, {"  ", "? ", false}, {"? ", "  ", false}, {"? ", "? ", true}, {"   ", "  ", true}} {
		g := &grown{}
		value := g.typed(api.New, "", api.Class, x.fresh)
		if len(x.decl) > len(x.fresh) {
			g.nodes[value].Type = api.Type{Base: api.Class, Name: "Main", Dims: 2, Marks: "   "}
		}
		info := g.program(t, nil, g.typed(api.Decl, "a", api.Class, x.decl, value))
		r, f := Solve(info, false)
		if want := (api.Fault{Code: api.ErrKind, At: 1000 + value}); x.right && (r == nil || f != (api.Fault{}) || len(r.Marked()) != 0) || !x.right && (r != nil || f != want) {
			t.Errorf("%q of %q: %v", x.decl, x.fresh, f)
		}
	}
}

// P22.2: a layer that isn't written is wrong as soon as another one gets a mark; behind what else that round finds.
func TestRawLate(t *testing.T) {
	g := &grown{}
	value := g.typed(api.New, "", api.Class, "  ")
	decl := g.typed(api.Decl, "a", api.Class, "  ", value)
	element := g.add(api.Assign, "", g.add(api.Index, "", g.add(api.Var, "a"), g.add(api.IntLit, "")), g.add(api.NullLit, ""))
	x := g.program(t, nil, decl, element)
	for range 2 {
		if r, f := Solve(x, false, strict.Place{Node: decl}); r != nil || f != (api.Fault{Code: api.ErrKind, At: 1000 + value}) {
			t.Errorf("%v", f)
		}
	}
}

// P1, P22.2: what comes to a layer that isn't written gives none a mark, and all ends.
func TestRawFlows(t *testing.T) {
	g := &grown{}
	inner := g.add(api.Index, "", g.typed(api.New, "", api.Class, "  "), g.add(api.IntLit, ""))
	x := g.program(t, nil, g.add(api.Assign, "", inner, g.add(api.NullLit, "")))
	r, f := Solve(x, false)
	if r == nil || len(r.Marked()) != 0 || len(r.Steps()) != 0 || len(r.Path(strict.Nowhere())) != 0 {
		t.Errorf("%v", f)
	}
}

// fields is a program with so many places: fields of arrays, at most five places each.
func fields(t *testing.T, places int, statements func(g *grown) []int) *base.Info {
	g := &grown{}
	var members []int
	for left := places; left > 0; {
		dims := min(left, 5)
		members = append(members, g.typed(api.Field, "f"+strconv.Itoa(left), api.Class, strings.Repeat(" ", dims)))
		left -= dims
	}
	return g.program(t, members, statements(g)...)
}

// P22.2: too many places; other faults come first.
func TestTooMany(t *testing.T) {
	none := func(*grown) []int { return nil }
	wrong := func(g *grown) []int { return []int{g.typed(api.Decl, "a", api.Class, "o", g.add(api.NullLit, ""))} }
	for _, x := range []struct {
		places     int
		statements func(g *grown) []int
		want       api.Fault
	}{
		{graph.MaxNodes, none, api.Fault{}}, {graph.MaxNodes + 1, none, api.Fault{Code: api.ErrRange}}, {graph.MaxNodes - 1, wrong, api.Fault{Code: api.ErrKind}}, {20000, wrong, api.Fault{Code: api.ErrKind}}, {40000, none, api.Fault{Code: api.ErrRange}},
	} {
		info := fields(t, x.places, x.statements)
		r, f := Solve(info, false)
		if f.Code != x.want.Code || (r == nil) != (f.Code != api.OK) || f.Code == api.ErrRange && f.At != 0 || f.Code == api.ErrKind && info.Node(f.At-1000).Kind != api.NullLit {
			t.Errorf("%d places: %v", x.places, f)
		}
		if r != nil && (len(r.Marked()) != (x.places+4)/5 || r.Rounds() != 2 || len(r.Path(r.Marked()[7])) != 1) {
			t.Errorf("%d marks", len(r.Marked()))
		}
	}
}

// P22.4: more steps than a graph may have edges; all are told, and the ways are found.
func TestManySteps(t *testing.T) {
	var text strings.Builder
	text.WriteString(main + "class A { ")
	for i := range 60 {
		text.WriteString("A f" + strconv.Itoa(i) + "; ")
	}
	text.WriteString("init(A p) { " + strings.Repeat("this.v(this); ", 200) + "} void v(A p) { } A g() { return this.f59; } }")
	x := known(t, text.String())
	r, f := Solve(x, false)
	if r == nil {
		t.Fatal(f)
	}
	steps := r.Steps()
	if len(steps) != 60*401+1 || len(steps) <= graph.MaxEdges || len(r.Marked()) != 61 {
		t.Fatalf("%d steps, %d marks", len(steps), len(r.Marked()))
	}
	for i := range steps[1:] {
		if !before(steps[i], steps[i+1]) {
			t.Fatalf("%v ahead of %v", steps[i], steps[i+1])
		}
	}
	holdPaths(t, r, x, "many fields")
}

// P22.4: more ways between places than a graph may have edges.
func TestManyWays(t *testing.T) {
	const locals, params = 60, 64
	text := main + "class A { void g("
	for i := range params {
		text += ", "[:2*min(1, i)] + "A[][][][] p" + strconv.Itoa(i)
	}
	text += ") { } void h(A[][][][] z) { z = null; z[0] = null; z[0][0] = null; z[0][0][0] = null; z[0][0][0][0] = null; "
	for i := range locals {
		text += "A[][][][] a" + strconv.Itoa(i) + " = z; "
	}
	for i := range locals {
		text += "this.g("
		for k := range params {
			text += ", "[:2*min(1, k)] + "a" + strconv.Itoa((i+k)%locals)
		}
		text += "); "
	}
	x := known(t, text+"} }")
	r, f := Solve(x, false)
	if r == nil {
		t.Fatal(f)
	}
	if len(r.Marked()) != 5*(1+locals+params) || len(r.Steps()) != 5*(1+locals+locals*params) {
		t.Fatalf("%d marks, %d steps", len(r.Marked()), len(r.Steps()))
	}
	for layer := range 5 {
		if path := r.Path(strict.Place{Node: place(x, nil, "p9"+strconv.Itoa(layer)).Node, Layer: layer}); len(path) != 3 {
			t.Errorf("%v", path)
		}
	}
	holdPaths(t, r, x, "many ways")
}

// P22.2: as many rounds as there are places in a chain.
func TestChain(t *testing.T) {
	const n = 63
	text := main + "class A { "
	for i := range n {
		text += "A g" + strconv.Itoa(i) + "() { return this.g" + strconv.Itoa(i+1) + "(); } "
	}
	x := known(t, text+"A g63() { return null; } }")
	r, f := Solve(x, false)
	if r == nil || r.Rounds() != n+2 {
		t.Fatal(f)
	}
	for i, p := range r.Marked() {
		if path := r.Path(p); len(path) != n+1-i || path[0].Why != strict.Flows {
			t.Errorf("%v", path)
		}
	}
	holdPaths(t, r, x, "a chain")
}

// P22.4: places to which no way leads, and ones that aren't there.
func TestNoPath(t *testing.T) {
	x := known(t, main+"class A { A? f; A s; A g() { return this.f; } void h(A a) { a = this; } }")
	r, f := Solve(x, false)
	if r == nil {
		t.Fatal(f)
	}
	list := []strict.Place{strict.Nowhere(), {Node: -1}, {Node: -2, Layer: -1}, {Node: math.MinInt, Layer: math.MinInt}, {Node: math.MaxInt, Layer: math.MaxInt}, place(x, nil, "f0"), place(x, nil, "A.g0"), place(x, nil, "a0")}
	for _, p := range append(list, strict.Place{Node: place(x, nil, "s0").Node, Layer: 1}) {
		if path := r.Path(p); len(path) != 0 {
			t.Errorf("%v: %v", p, path)
		}
	}
	if path := r.Path(place(x, nil, "s0")); len(path) != 1 || path[0].Why != strict.Unborn {
		t.Errorf("%v", path)
	}
}
