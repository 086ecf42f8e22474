package born

import (
	"slices"
	"strconv"
	"strings"
	"testing"

	"caulker/api"
	"caulker/base"
	"caulker/tree"
)

// grown is a program that is made node by node.
type grown struct{ nodes []api.Node }

// add is a node more.
func (g *grown) add(kind int, text string, kids ...int) int {
	g.nodes = append(g.nodes, api.Node{Kind: kind, Text: text, Kids: kids})
	return len(g.nodes) - 1
}

// typed is a node more, of a type that is a base alone.
func (g *grown) typed(kind int, text string, of int, kids ...int) int {
	i := g.add(kind, text, kids...)
	g.nodes[i].Type = api.Type{Base: of, Marks: " "}
	return i
}

// this is a field of the object itself.
func (g *grown) this(name string) int { return g.add(api.Get, name, g.add(api.This, "")) }

// set gives a field of the object itself a value.
func (g *grown) set(name string) int {
	to := g.this(name)
	return g.add(api.Assign, "", to, g.add(api.IntLit, ""))
}

// init is one with these statements.
func (g *grown) init(statements ...int) int {
	return g.add(api.Init, "", g.add(api.Block, "", statements...))
}

// fields are many ints.
func (g *grown) fields(n int) []int {
	var list []int
	for i := range n {
		list = append(list, g.typed(api.Field, name(i), api.Int))
	}
	return list
}

// name is the name of one of many fields.
func name(i int) string { return "a" + strconv.Itoa(i) }

// program is the whole: a Main, and these classes.
func (g *grown) program(t *testing.T, classes ...int) *base.Info {
	t.Helper()
	block := g.add(api.Block, "", g.add(api.Return, "", g.add(api.IntLit, "")))
	main := g.add(api.ClassOf, "Main", g.typed(api.Method, "main", api.Int, block))
	p := api.Tree{Root: g.add(api.Program, "", append(classes, main)...), Nodes: g.nodes}
	x, f := base.Of(p)
	if x == nil {
		t.Fatal(f)
	}
	return x
}

// P19.1: more fields than there are bits, each of which alone, or all but which, have a value.
func TestManyFields(t *testing.T) {
	const many = 150
	for _, one := range []int{0, 1, 31, 32, 63, 64, 65, 127, 128, many - 1} {
		for _, but := range []bool{false, true} {
			g := &grown{}
			list := g.fields(many)
			var sets []int
			for i := range many {
				if (i == one) != but {
					sets = append(sets, g.set(name(i)))
				}
			}
			yes := g.add(api.BoolLit, "")
			all := g.add(api.Block, "", sets...)
			other := g.add(api.Block, "", g.add(api.Return, ""))
			init := g.init(g.add(api.If, "", yes, all, other))
			x := g.program(t, g.add(api.ClassOf, "A", append(list, init)...))
			hold(t, x)
			ends := 0
			for _, l := range Look(x).Late() {
				if l.At == init {
					ends++
					if (x.Node(l.Field).Text == name(one)) != but {
						t.Errorf("%d, %t: %v", one, but, l)
					}
				}
			}
			if ends != map[bool]int{true: 1, false: many - 1}[but] {
				t.Errorf("%d, %t: %d", one, but, ends)
			}
		}
	}
}

// P19.2, P19.3: what only raw programs have: fields of what has no values, a class without a name that others come from, statements in blocks of their own.
func TestOdd(t *testing.T) {
	g := &grown{}
	void := g.typed(api.Field, "v", api.Void)
	leak := g.typed(api.Decl, "t", api.Class, g.add(api.This, ""))
	g.nodes[leak].Type.Name = "Top"
	first := g.add(api.ClassOf, "Top", void, g.init(g.add(api.Block, "", leak)))
	under := g.add(api.ClassOf, "", g.add(api.Ancestor, "Top"), g.typed(api.Field, "w", api.Bool))
	super := g.init(g.add(api.Super, ""), g.add(api.Block, "", g.set("x"), g.add(api.Return, "")))
	last := g.add(api.ClassOf, "Last", g.add(api.Ancestor, ""), g.typed(api.Field, "x", api.Int), super)
	x := g.program(t, last, under, first)
	hold(t, x)
	var list []string
	for _, l := range Look(x).Late() {
		list = append(list, x.Node(l.Field).Text+" "+words[l.Why])
	}
	if s := strings.Join(list, ", "); s != "v Leaks, v Ends, w NoInit, x Above" {
		t.Error(s)
	}
	if r := Look(x); !r.Leaks("") || !r.Leaks("Last") || !r.Leaks("Top") || r.Leaks("Main") {
		t.Error("Leaks")
	}
}

// P1: as many loops, and as many values, in one another as there may be.
func TestDeep(t *testing.T) {
	g := &grown{}
	list := g.fields(2)
	last := g.add(api.Block, "", g.set(name(0)), g.add(api.Return, ""))
	for len(g.nodes) < tree.MaxNodes/2 {
		last = g.add(api.Block, "", g.add(api.While, "", g.add(api.BoolLit, ""), last))
	}
	value := g.this(name(1))
	for len(g.nodes) < tree.MaxNodes-20 {
		value = g.add(api.Neg, "", value)
	}
	init := g.init(last, g.add(api.Print, "", value))
	x := g.program(t, g.add(api.ClassOf, "A", append(list, init)...))
	var got []string
	for _, l := range Look(x).Late() {
		got = append(got, x.Node(l.Field).Text+" "+words[l.Why])
	}
	if want := []string{"a0 Ends", "a1 Ends", "a1 Reads", "a1 Ends"}; !slices.Equal(got, want) {
		t.Errorf("%v, not %v", got, want)
	}
}

// P1: as many classes, one below the other, as there may be, whose objects all leak.
func TestLongChain(t *testing.T) {
	g := &grown{}
	var classes []int
	top := g.add(api.ClassOf, name(0), g.typed(api.Field, "f", api.Int), g.init(g.add(api.Print, "", g.add(api.Binary, "==", g.add(api.This, ""), g.add(api.NullLit, "")))))
	classes = append(classes, top)
	n := 1
	for ; len(g.nodes) < tree.MaxNodes-20; n++ {
		classes = append(classes, g.add(api.ClassOf, name(n), g.add(api.Ancestor, name(n-1))))
	}
	r := Look(g.program(t, classes...))
	if len(r.Late()) != 2 || !r.Leaks(name(0)) || !r.Leaks(name(n-1)) || r.Leaks(name(n)) {
		t.Errorf("%v", r.Late())
	}
}

// P1, P19.3: many fields of many ancestors, and many places where the object is handed on.
func TestManyCauses(t *testing.T) {
	var text strings.Builder
	for i := range 40 {
		text.WriteString("class " + name(i))
		if i > 0 {
			text.WriteString(" extends " + name(i-1))
		}
		text.WriteString(" { ")
		for k := range 50 {
			text.WriteString("int f" + strconv.Itoa(i) + "a" + strconv.Itoa(k) + "; ")
		}
		if i == 0 {
			text.WriteString("init(bool b) { } ")
		}
		text.WriteString("} ")
	}
	text.WriteString("class Z extends a39 { init() { super(this == this")
	for range 299 {
		text.WriteString(" || this == this")
	}
	text.WriteString("); } }")
	x := known(t, text.String()+rest)
	list := Look(x).Late()
	if want := 40*50 + 600*40*50; len(list) != want {
		t.Errorf("%d, not %d", len(list), want)
	}
}
