package strict

import (
	"strconv"
	"strings"
	"testing"

	"caulker/api"
	"caulker/base"
	"caulker/tree"
)

// grown is a program that is made node by node.
type grown struct{ nodes []api.Node }

// add is a node more.
func (g *grown) add(kind int, text string, kids ...int) int {
	g.nodes = append(g.nodes, api.Node{Kind: kind, Text: text, Kids: kids})
	return len(g.nodes) - 1
}

// typed is a node more, of a type that is made of Main, or of a base.
func (g *grown) typed(kind int, text string, of int, marks string, kids ...int) int {
	i := g.add(kind, text, kids...)
	g.nodes[i].Type = api.Type{Base: of, Dims: len(marks) - 1, Marks: marks}
	if of == api.Class {
		g.nodes[i].Type.Name = "Main"
	}
	return i
}

// program is the whole: a Main with these members, whose main has these statements.
func (g *grown) program(t *testing.T, members []int, statements ...int) *base.Info {
	t.Helper()
	block := g.add(api.Block, "", append(statements, g.add(api.Return, "", g.add(api.IntLit, "")))...)
	main := g.typed(api.Method, "main", api.Int, " ", block)
	p := api.Tree{Root: g.add(api.Program, "", g.add(api.ClassOf, "Main", append(members, main)...)), Nodes: g.nodes}
	x, f := base.Of(p)
	if x == nil {
		t.Fatal(f)
	}
	return x
}

// P20.1, P20.2: what is made anew of any type: its marks are as they stand, and from nowhere, one by one.
func TestRawNew(t *testing.T) {
	g := &grown{}
	fresh := func(marks string) int { return g.typed(api.New, "", api.Class, marks) }
	decl := g.typed(api.Decl, "a", api.Class, "   ", fresh("???"))
	inner := g.add(api.Index, "", fresh("?  "), g.add(api.IntLit, ""))
	assign := g.add(api.Assign, "", inner, fresh(" ?"))
	asked := g.add(api.Print, "", g.add(api.Length, "", fresh(" o")))
	number := g.add(api.Print, "", g.typed(api.New, "", api.Int, " "))
	x := g.program(t, nil, decl, assign, asked, number)
	value, given, option := g.nodes[decl].Kids[0], g.nodes[assign].Kids[1], g.nodes[g.nodes[asked].Kids[0]].Kids[0]
	want := []Issue{
		{Flows, value, Nowhere(), Place{decl, 2}}, {Differ, value, Nowhere(), Place{decl, 0}}, {Differ, value, Nowhere(), Place{decl, 1}},
		{Flows, given, Nowhere(), Nowhere()}, {Differ, given, Nowhere(), Nowhere()}, {Option, option, Nowhere(), Nowhere()},
	}
	list := Look(x, false).Issues()
	if len(list) != len(want) {
		t.Fatalf("%v", list)
	}
	for i := range want {
		if list[i] != want[i] {
			t.Errorf("%v, not %v", list[i], want[i])
		}
	}
	hold(t, x, false)
}

// P20.4: fields of what has no values, and a class without a name, whose ancestor's methods are gone over.
func TestRawClasses(t *testing.T) {
	g := &grown{}
	method := func(mark string) int {
		return g.typed(api.Method, "m", api.Class, mark, g.add(api.Block, "", g.add(api.Return, "", g.typed(api.New, "", api.Class, " "))))
	}
	top, under := method(" "), method("?")
	first := g.add(api.ClassOf, "", g.typed(api.Field, "v", api.Void, " "), top)
	last := g.add(api.ClassOf, "Last", g.add(api.Ancestor, ""), under)
	main := g.typed(api.Method, "main", api.Int, " ", g.add(api.Block, "", g.add(api.Return, "", g.add(api.IntLit, ""))))
	p := api.Tree{Root: g.add(api.Program, "", last, first, g.add(api.ClassOf, "Main", main)), Nodes: g.nodes}
	x, f := base.Of(p)
	if x == nil {
		t.Fatal(f)
	}
	if list := Look(x, true).Issues(); len(list) != 1 || list[0] != (Issue{Below, under, Place{under, 0}, Place{top, 0}}) {
		t.Errorf("%v", list)
	}
}

// P1: as many blocks, and as many values, in one another as there may be.
func TestDeep(t *testing.T) {
	g := &grown{}
	last := g.add(api.Block, "")
	for len(g.nodes) < tree.MaxNodes/2 {
		last = g.add(api.Block, "", g.add(api.While, "", g.add(api.BoolLit, ""), last))
	}
	field := g.typed(api.Field, "m", api.Class, "?")
	value := g.add(api.This, "")
	asked := 0
	for len(g.nodes) < tree.MaxNodes-20 {
		value = g.add(api.Get, "m", value)
		asked++
	}
	x := g.program(t, []int{field}, last, g.typed(api.Decl, "a", api.Class, "o", value))
	list := Look(x, false).Issues()
	if len(list) != asked {
		t.Fatalf("%d, not %d", len(list), asked)
	}
	for i, issue := range list {
		if last := i == asked-1; issue.From != (Place{field, 0}) || (issue.Kind == Option) != last || (issue.Kind == Asked) == last {
			t.Errorf("%v", issue)
		}
	}
}

// P20.1: an array's elements, however many are asked for in one another, and whatever stands between.
func TestDims(t *testing.T) {
	for layers := 1; layers <= tree.MaxDims; layers++ {
		for marks := range 1 << layers {
			of, value := "A", "l"
			for i := range layers {
				if marks>>i&1 == 1 {
					of += "?"
				}
				of += "[]"
				value += "[i]"
			}
			text := main + "class A { A? f(" + of + " l, int i) { return " + value + "; } }"
			x := known(t, text)
			list := Look(x, false).Issues()
			for _, i := range list { // each element that may be null, of which another one is asked
				if i.Kind != Asked || x.Node(i.From.Node).Kind != api.Param || x.Node(i.From.Node).Type.Marks[i.From.Layer] != api.Nullable || x.Type(i.At).Dims != i.From.Layer || i.From.Layer == 0 {
					t.Errorf("%s: %v", text, i)
				}
			}
			if len(list) != strings.Count(of, "?")-marks&1 {
				t.Errorf("%s: %v", text, list)
			}
			hold(t, x, true)
		}
	}
}

// P1: many bodies, and many names in one of them.
func TestMany(t *testing.T) {
	var text strings.Builder
	text.WriteString(main)
	for i := range 60 {
		text.WriteString("class A" + strconv.Itoa(i) + " { ")
		for k := range 12 {
			text.WriteString("A0? f" + strconv.Itoa(k) + "(A0? a) { return a; } ")
		}
		text.WriteString("} ")
	}
	if x, f := Program(text.String()); x == nil {
		t.Error(f)
	}
	text.Reset()
	text.WriteString(main + "class A { A f(A? a) { ")
	for range 1300 {
		text.WriteString("if (a != null) { a = a.f(a); } ")
	}
	text.WriteString("return @1a; } }")
	all, places := labels(text.String())
	if x, f := Program(all); x != nil || f.Code != api.ErrLong { // too many nodes
		t.Error(f)
	}
	all = strings.Replace(all, strings.Repeat("if (a != null) { a = a.f(a); } ", 600), "", 1)
	x, f := Program(all)
	if x != nil || f.Code != api.ErrNull || len(places) != 1 || all[f.At:] != "a; } }" {
		t.Error(f)
	}
}

// P1, P20.6: any bytes, cut anywhere, or too many.
func TestTexts(t *testing.T) {
	whole := inBody("if (o is some) { b = o.val; } k = new A[1]; m = l!; a.N = a!.N;")
	texts := []string{"\x00", "\xff\xfe", strings.Repeat(" ", 1<<16), strings.Repeat(" ", 1<<16+1), strings.Repeat("class A { ", 99), main + main}
	for at := range len(whole) {
		texts = append(texts, whole[:at], whole[at:], whole[:at]+whole[at+1:], whole[:at]+"?"+whole[at:], whole[:at]+"!"+whole[at:])
	}
	codes := map[api.Errno]int{}
	for _, text := range texts {
		x, f := Fits(text)
		y, g := Program(text)
		codes[g.Code]++
		if (x == nil) != (f.Code != api.OK) || (y == nil) != (g.Code != api.OK) || x == nil && f != g || g.At < 0 || g.At > len(text) || f.Code == api.OK && f.At != 0 {
			t.Fatalf("%v, %v of %q", f, g, text)
		}
	}
	if len(codes) < 8 {
		t.Errorf("%v", codes)
	}
}
