package flow

import (
	"strconv"
	"testing"

	"caulker/api"
	"caulker/base"
	"caulker/tree"
)

// grown is a program that is made node by node.
type grown struct{ nodes []api.Node }

// add is a node more.
func (g *grown) add(kind int, text string, kids ...int) int {
	g.nodes = append(g.nodes, api.Node{Kind: kind, Text: text, Kids: kids})
	return len(g.nodes) - 1
}

// typed is a node more, of a type.
func (g *grown) typed(kind int, text string, of api.Type, kids ...int) int {
	i := g.add(kind, text, kids...)
	g.nodes[i].Type = of
	return i
}

// set is an assignment to a local.
func (g *grown) set(name string, value int) int {
	return g.add(api.Assign, "", g.add(api.Var, name), value)
}

// object is a type that may be null.
var object = api.Type{Base: api.Class, Name: "Main", Marks: "?"}

// program is the whole: Main's main, with these statements behind what is declared, each with this as its value.
func (g *grown) program(t *testing.T, names []string, statements ...int) *base.Info {
	t.Helper()
	var list []int
	for _, name := range names {
		list = append(list, g.typed(api.Decl, name, object, g.add(api.This, "")))
	}
	block := g.add(api.Block, "", append(list, statements...)...)
	main := g.typed(api.Method, "main", api.Type{Base: api.Int, Marks: " "}, block)
	root := g.add(api.Program, "", g.add(api.ClassOf, "Main", main))
	x, f := base.Of(api.Tree{Nodes: g.nodes, Root: root})
	if x == nil {
		t.Fatal(f)
	}
	return x
}

// P1: as many loops in one another as there may be: what happens within all of them is known at the end of each.
func TestDeep(t *testing.T) {
	g := &grown{}
	last := g.add(api.Block, "", g.set("a", g.add(api.NullLit, "")))
	for len(g.nodes) < tree.MaxNodes-15 {
		last = g.add(api.Block, "", g.add(api.While, "", g.add(api.BoolLit, ""), last))
	}
	x := g.program(t, []string{"a", "b"}, last)
	f := Solve(x, 0, true)
	if f.Left(-1, 0) || !f.Left(-1, 1) {
		t.Error("behind all loops")
	}
}

// name is the name of one of many locals.
func name(i int) string { return "a" + strconv.Itoa(i) }

// P18.2: values that come from a local to the next one, each time that a loop begins anew.
func TestChain(t *testing.T) {
	for first := range 64 {
		begin, loop := "", ""
		for i := range 64 {
			begin += "Main? " + name(i) + " = this; "
			if i > first {
				loop += name(i-1) + " = " + name(i) + "; "
			}
		}
		x := known(t, "class Main { int main() { "+begin+"while ("+name(first)+" == this) { "+loop+"a63 = null; } return 1; } }")
		f := Solve(x, 0, false)
		end := nodesOf(x, api.Return)[0]
		for slot := range 64 {
			if f.Left(end, slot) != (slot < first) {
				t.Errorf("the local %d, of those from %d on", slot, first)
			}
		}
	}
}

// P18.3, P18.4: as many locals as there may be, each known alone.
func TestManyLocals(t *testing.T) {
	begin := ""
	for i := range 64 {
		begin += "Main? " + name(i) + " = null; "
	}
	for one := range 64 {
		x := known(t, "class Main { int main() { "+begin+name(one)+" = this; print("+name(one)+" == this); return 1; } }")
		f := Solve(x, 0, false)
		at, end := find(x, name(one), 0), nodesOf(x, api.Return)[0]
		for slot := range 64 {
			if is := slot == one; f.Known(at, slot) != is || f.Left(end, slot) != is {
				t.Errorf("of %d: %d", one, slot)
			}
		}
		if !f.Holds(at) || f.Known(at, 64) || f.Left(end, 64) {
			t.Errorf("of %d", one)
		}
	}
}
