package option

import (
	"math"
	"slices"
	"strings"
	"testing"
	"unsafe"

	"caulker/api"
	"caulker/base"
	"caulker/plan"
	"caulker/strict"
	"caulker/tree"
)

// P1: numbers of bodies and locals that there aren't.
func TestNumbers(t *testing.T) {
	x := fits(t, in("A? a = null;"))
	f := body(t, x)
	wild := []int{math.MinInt, -1, 0, 1, 4, 5, 63, 64, len(x.Bodies()), math.MaxInt}
	for _, number := range append(wild, f) {
		if got := Locals(x, number); (len(got) > 0) != (number == f) {
			t.Errorf("%d: %v", number, got)
		}
		for _, slot := range wild {
			is := number == f && slot == 4
			if got := Closed(x, number, slot); got != is {
				t.Errorf("%d, %d: %t", number, slot, got)
			}
			if got := Changes(x, number, slot); (len(got) == 3) != is || !is && len(got) > 0 {
				t.Errorf("%d, %d: %v", number, slot, got)
			}
		}
	}
}

// grown is a program of some nodes, each given with how many of those ahead of it it is made of.
type grown struct {
	nodes []api.Node
	stack []int
}

func (g *grown) put(kids int, n api.Node) {
	n.Kids = slices.Clone(g.stack[len(g.stack)-kids:])
	g.stack = append(g.stack[:len(g.stack)-kids], len(g.nodes))
	g.nodes = append(g.nodes, n)
}

// P1, P25.1, P25.2: a program that was read from no text: its nodes stand nowhere, or in strange places, and no ends of layers are told.
func TestGrown(t *testing.T) {
	of := func(mark string) api.Type { return api.Type{Base: api.Class, Name: "Main", Marks: mark} }
	for _, ends := range [][]int{nil, {}, {-7}, {3, 4}} {
		var g grown
		g.put(0, api.Node{Kind: api.Var, Text: "a", Span: api.Span{From: 2, To: 2}}) // behind its declaration, though it is the first node
		g.put(0, api.Node{Kind: api.NullLit})
		g.put(2, api.Node{Kind: api.Binary, Text: "!=", Span: api.Span{From: 1, To: 2}})
		g.put(1, api.Node{Kind: api.Print})
		g.put(0, api.Node{Kind: api.NullLit, Span: api.Span{From: 9, To: -2}})
		g.put(1, api.Node{Kind: api.Decl, Text: "a", Type: of("?"), Where: api.Span{From: -5, To: 8}, Ends: ends})
		g.put(0, api.Node{Kind: api.Var, Text: "a"})
		g.put(0, api.Node{Kind: api.This, Span: api.Span{From: math.MaxInt, To: math.MinInt}})
		g.put(2, api.Node{Kind: api.Assign})
		g.put(0, api.Node{Kind: api.IntLit, N: 1})
		g.put(1, api.Node{Kind: api.Return})
		g.put(4, api.Node{Kind: api.Block})
		slices.Reverse(g.nodes[len(g.nodes)-1].Kids[:2])
		g.put(1, api.Node{Kind: api.Method, Text: "main", Type: api.Type{Base: api.Int, Marks: " "}})
		g.put(1, api.Node{Kind: api.ClassOf, Text: "Main"})
		g.put(1, api.Node{Kind: api.Program})
		p := api.Tree{Nodes: g.nodes, Root: len(g.nodes) - 1}
		x, f := base.Of(p)
		if x == nil {
			t.Fatal(f)
		}
		to := 8
		if len(ends) > 0 {
			to = ends[0]
		}
		var want []plan.Change
		for _, c := range []struct {
			from, to, node int
			text           string
		}{{-5, -5, 5, "Option<"}, {to, 8, 5, ">"}, {9, -2, 4, "none"}, {math.MaxInt, math.MaxInt, 7, "some("}, {math.MinInt, math.MinInt, 7, ")"}, {1, 2, 2, " a is some"}} {
			want = append(want, plan.Change{Edit: api.Edit{Span: api.Span{From: c.from, To: c.to}, Text: c.text}, Kind: plan.Wrapped, Place: strict.Place{Node: c.node, Layer: -1}})
		}
		plan.Sort(want)
		if got := Changes(x, 0, 0); !slices.Equal(got, want) || !Closed(x, 0, 0) {
			t.Errorf("%+v, not %+v", got, want)
		}
	}
}

// P1: texts that are no programs.
func TestTexts(t *testing.T) {
	for text, want := range map[string]api.Fault{
		"": {Code: api.ErrMain}, "\x00": {Code: api.ErrSign}, "\"": {Code: api.ErrOpen}, "class": {Code: api.ErrToken, At: 5}, strings.Repeat(" ", 1<<16+1): {Code: api.ErrLong}, main[:len(main)-2]: {Code: api.ErrToken, At: len(main) - 2},
	} {
		if got, k, f := Wrap(text); got != "" || k != 0 || f != want {
			t.Errorf("%.20s: %d, %v, not %v", text, k, f, want)
		}
	}
}

// P1: as many locals as a body may have, and values as deep as they may be.
func TestMany(t *testing.T) {
	text := main + "class A { void g(" + strings.TrimSuffix(strings.Repeat("A? p#, ", 14), ", ") + ") { " + strings.Repeat("A? a# = null; ", 50) + "} }"
	for i := range 64 {
		text = strings.Replace(text, "#", string(rune('a'+i/26))+string(rune('a'+i%26)), 1)
	}
	got, k, f := Wrap(text)
	if k != 50 || f != (api.Fault{}) || strings.Count(got, "Option<A> a") != 50 || strings.Count(got, "= none") != 50 {
		t.Errorf("%d, %v: %s", k, f, got)
	}
	deep := main + "class A { A h(A? a) { return this; } void g() { A? a = this; A? b = null; if (a != null) { b = a" + strings.Repeat(".h(a", 50) + strings.Repeat(")", 50) + "; } } }"
	if n, _ := holdWrap(t, deep); n != 2 {
		t.Errorf("%d", n)
	}
}

// spoil changes all of a list, its spare room too.
func spoil[T any](list []T, to T) {
	for i := range list[:cap(list)] {
		list[:cap(list)][i] = to
	}
}

// P2: what is answered is new memory each time, and neither a text nor a program is kept or changed.
func TestMemory(t *testing.T) {
	x := fits(t, in("A? a = null; A? b = p; if (a != null) { a.n = 1; b = a; }"))
	f := body(t, x)
	form := tree.Form(x.Tree(), x.Tree().Root)
	list, again := Changes(x, f, 4), Changes(x, f, 4)
	spoil(Changes(x, f, 4), plan.Change{Kind: 9})
	spoil(Locals(x, f), 9)
	if !slices.Equal(list, again) || !slices.Equal(Changes(x, f, 4), list) || !slices.Equal(Locals(x, f), []int{4, 5}) || tree.Form(x.Tree(), x.Tree().Root) != form {
		t.Errorf("%v, %v", list, again)
	}
	for _, text := range []string{in("A? a = null; if (a != null) { a.n = 1; }"), in("A a = p;")} {
		bytes := []byte(text)
		got, _, _ := Wrap(unsafe.String(&bytes[0], len(bytes)))
		want := strings.Clone(got)
		if string(bytes) != text {
			t.Errorf("%s", bytes)
		}
		spoil(bytes, '-')
		if got != want {
			t.Errorf("%s, not %s", got, want)
		}
	}
}

// P2: the changes' texts are not those of the program's names.
func TestNames(t *testing.T) {
	bytes := []byte(in("A? a = null; bool c = a != null;"))
	x := fits(t, unsafe.String(&bytes[0], len(bytes)))
	list := Changes(x, body(t, x), 4)
	spoil(bytes, '-')
	if len(list) != 4 || list[3].Text != "a is some" {
		t.Errorf("%v", list)
	}
}
