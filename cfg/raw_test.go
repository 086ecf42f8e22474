package cfg

import (
	"slices"
	"strconv"
	"strings"
	"testing"

	"caulker/api"
	"caulker/base"
	"caulker/tree"
)

// grown is a program that is made node by node: Main's main, which has a parameter-like x of Main and a truth p as its first locals.
type grown struct{ nodes []api.Node }

// add is a node more.
func (g *grown) add(kind int, text string, kids ...int) int {
	n := api.Node{Kind: kind, Text: text, Kids: kids}
	g.nodes = append(g.nodes, n)
	return len(g.nodes) - 1
}

// typed is a node more, of a type.
func (g *grown) typed(kind int, text string, of api.Type, kids ...int) int {
	i := g.add(kind, text, kids...)
	g.nodes[i].Type = of
	return i
}

// The types that are needed.
var (
	number = api.Type{Base: api.Int, Marks: " "}
	truth  = api.Type{Base: api.Bool, Marks: " "}
	object = api.Type{Base: api.Class, Name: "Main", Marks: "?"}
)

// program is the whole, with these statements behind the declarations of x and p.
func (g *grown) program(t *testing.T, statements ...int) *base.Info {
	t.Helper()
	list := append([]int{g.typed(api.Decl, "x", object), g.typed(api.Decl, "p", truth)}, statements...)
	block := g.add(api.Block, "", list...)
	main := g.typed(api.Method, "main", number, block)
	of := g.add(api.ClassOf, "Main", g.typed(api.Field, "m", object), main)
	root := g.add(api.Program, "", of)
	x, f := base.Of(api.Tree{Nodes: g.nodes, Root: root})
	if x == nil {
		t.Fatal(f)
	}
	return x
}

// room is how many more nodes there may be ahead of the last ones.
func (g *grown) room() int { return tree.MaxNodes - 10 - len(g.nodes) }

// P1: as many things within one another as there may be.
func TestDeep(t *testing.T) {
	deep := map[string]func(g *grown) int{
		"loops": func(g *grown) int {
			last := g.add(api.Block, "")
			for g.room() > 2 {
				last = g.add(api.Block, "", g.add(api.While, "", g.add(api.Var, "p"), last))
			}
			return last
		},
		"branches": func(g *grown) int {
			last := g.add(api.Block, "")
			for g.room() > 3 {
				last = g.add(api.Block, "", g.add(api.If, "", g.add(api.Var, "p"), g.add(api.Block, ""), last))
			}
			return last
		},
		"blocks": func(g *grown) int {
			last := g.add(api.Block, "")
			for g.room() > 0 {
				last = g.add(api.Block, "", last)
			}
			return last
		},
		"nots": func(g *grown) int {
			last := g.add(api.Var, "p")
			for g.room() > 2 {
				last = g.add(api.Not, "", last)
			}
			return g.add(api.While, "", last, g.add(api.Block, ""))
		},
		"ands ahead": func(g *grown) int {
			last := g.add(api.Var, "p")
			for g.room() > 3 {
				last = g.add(api.Binary, "&&", last, g.add(api.Var, "p"))
			}
			return g.add(api.If, "", last, g.add(api.Block, ""))
		},
		"ors behind": func(g *grown) int {
			last := g.add(api.Var, "p")
			for g.room() > 3 {
				last = g.add(api.Binary, "||", g.add(api.Var, "p"), last)
			}
			return g.add(api.Print, "", last)
		},
		"fields": func(g *grown) int {
			last := g.add(api.Var, "x")
			for g.room() > 3 {
				last = g.add(api.Get, "m", last)
			}
			return g.add(api.Assign, "", last, g.add(api.NullLit, ""))
		},
		"one by one": func(g *grown) int {
			var list []int
			for g.room() > 4 {
				list = append(list, g.add(api.Assign, "", g.add(api.Var, "x"), g.add(api.Guard, "", g.add(api.Var, "x"))))
			}
			return g.add(api.Block, "", list...)
		},
	}
	for what, make := range deep {
		g := &grown{}
		x := g.program(t, make(g))
		h := Of(x, 0)
		if h == nil || len(h.Order()) != h.Len() || !slices.Contains(h.Reached(), true) || slices.Contains(h.Reached(), false) {
			t.Errorf("%s: a graph with ways that lead nowhere", what)
		}
		hold(t, x)
	}
}

// P17.2: as many locals as there may be.
func TestManyLocals(t *testing.T) {
	text := ""
	for i := range 64 {
		text += "int a" + strconv.Itoa(i) + " = 0; "
	}
	x := known(t, "class Main { int main() { "+text+" return a63 + a0; } }")
	hold(t, x)
	if got := ways(x, 0)[0]; !strings.HasSuffix(got, "Sa62 Sa63 Ra63 Ra0 L") {
		t.Error(got)
	}
}
