package scope

import (
	"reflect"
	"slices"
	"strconv"
	"strings"
	"testing"
	"unsafe"

	"caulker/api"
	"caulker/parse"
	"caulker/tree"
)

// body is a program of a class with a method or an init, and that one's node.
func body(t *testing.T, text string) (api.Tree, int) {
	t.Helper()
	p, f := parse.Parse("class A { int a; " + text + " int b() { int c; } }")
	if f != (api.Fault{}) {
		t.Fatalf("%v of %s", f, text)
	}
	return p, slices.IndexFunc(p.Nodes, func(n api.Node) bool { return n.Kind == api.Method || n.Kind == api.Init })
}

// found is the scope of a method or an init in which nothing is wrong.
func found(t *testing.T, text string) *Scope {
	t.Helper()
	p, at := body(t, text)
	s, f := Of(p, at)
	if s == nil || f != (api.Fault{}) {
		t.Fatalf("%v of %s", f, text)
	}
	newModel(p, at).hold(t)
	return s
}

// P12.1, P12.2: what is wrong, told where the @ stands; and what isn't.
func TestWrong(t *testing.T) {
	for code, list := range map[api.Errno][]string{
		api.ErrTwice: {
			"void f(int a, @str a) { }", "void f(int a) { @int a; }", "void f(int a) { { @int a; } }", "init(A? b) { while (true) { int a; @Option<A> b; } }",
			"init() { { int a; } @int a; }", "init() { { int a; } { @A[] a = null; } }", "init() { if (true) { int a; } else { @int a; } }", "init() { int a; int b; @str b; str a; }",
			"init() { int a = 1; @int a = a; }", "init() { int a; { } { { @int a; } } }",
		},
		api.ErrMissing: {
			"int f() { return @a; }", "int f() { return this.a + @b; }", "int f() { @c = 1; int c; }", "int f() { int d = @d; }", "int f() { { int d; } return @d; }",
			"int f() { while (@d) { bool d; } }", "int f() { if (true) { int d; } else { print(@d); } }", "int f() { { int d; { int e; } print(@e); } }",
			"int f(int a) { { int d; } int e; print(a + e + @d); }", "int f() { { { int d; } } int e; { print(@d); } }", "int f() { { int d; } { int e; print(@d); } }",
			"init() { @x.f = 1; }", "init() { this.f[@x] = 1; }", "init() { @x.f(); }", "init() { new A(null, @x); }", "init() { super(@x); }", "init() { print(@x + y); }",
			"init() { @x = y; int y; int y; }", "init() { int y = @x; int y; }", "init(int a) { int a1 = a; @a2 = a1; }", "init() { print(cast<x>(ask(@x!.val))); }",
		},
	} {
		for _, text := range list {
			p, at := body(t, strings.Replace(text, "@", "", 1))
			s, f := Of(p, at)
			if s != nil || f != (api.Fault{Code: code, At: strings.Index("class A { int a; "+text, "@")}) {
				t.Errorf("%v, not %d, of %s", f, code, text)
			}
			newModel(p, at).hold(t)
		}
	}
	for _, text := range []string{
		"init() { }", "void f() { int f; int A; f = A; }", "void f(int a) { { { a = a; } } }", "void f() { int a; { a = 1; } { int b = a; { b = a; } } print(a); }",
		"void f() { { int a; } { int b; } int c; }", "void f(int c) { while (c) { int d = c; if (d) { c = d; } } }",
	} {
		found(t, text)
	}
}

// P12.1: of what node a scope is: of a method or an init alone; what layer 7 refuses is told at 0, ahead of that.
func TestNodes(t *testing.T) {
	p, at := body(t, "A f(int a) { return new A(a, -1); }")
	for node := -3; node < len(p.Nodes)+3; node++ {
		method := node >= 0 && node < len(p.Nodes) && p.Nodes[node].Kind == api.Method
		if s, f := Of(p, node); (s != nil) != method || f != (api.Fault{}) && f != (api.Fault{Code: api.ErrPlace}) || method != (f.Code == api.OK) {
			t.Errorf("%d: %v", node, f)
		}
	}
	for _, node := range []int{-1 << 63, 1<<63 - 1} {
		if s, f := Of(p, node); s != nil || f != (api.Fault{Code: api.ErrPlace}) {
			t.Errorf("%d: %v", node, f)
		}
	}
	p.Root--
	for _, x := range []struct {
		t    api.Tree
		node int
		code api.Errno
	}{{p, at, api.ErrForm}, {p, -1, api.ErrForm}, {api.Tree{}, 0, api.ErrForm}, {api.Tree{Nodes: make([]api.Node, tree.MaxNodes+1)}, 0, api.ErrLong}} {
		if s, f := Of(x.t, x.node); s != nil || f != (api.Fault{Code: x.code}) {
			t.Errorf("%v, not %d", f, x.code)
		}
	}
}

// P12.1: as many as there may be, and one more; that one has an earlier one's name, which is told ahead.
func TestManyLocals(t *testing.T) {
	if MaxLocals != 64 {
		t.Errorf("MaxLocals %d", MaxLocals)
	}
	for params := range 4 {
		var list []string
		text := ""
		for i := range 64 {
			if i < params {
				list = append(list, "int a"+strconv.Itoa(i))
			} else {
				text += "{ int a" + strconv.Itoa(i) + " = 1; } "
			}
		}
		text = "void f(" + strings.Join(list, ", ") + ") { " + text
		if s := found(t, text+"}"); s.Len() != 64 || s.Find("a63") != 63 || s.Locals()[63].Name != "a63" {
			t.Errorf("%d", s.Len())
		}
		for more, code := range map[string]api.Errno{"int b; } ": api.ErrLong, "int a5; }": api.ErrTwice, "b = 1; }": api.ErrMissing, "{ int b = a63; } }": api.ErrMissing, "{ int b; } int b; }": api.ErrLong} {
			p, at := body(t, text+more)
			if s, f := Of(p, at); s != nil || f.Code != code {
				t.Errorf("%v, not %d, of %s", f, code, more)
			}
			newModel(p, at).hold(t)
		}
	}
}

// P12.2: raw bodies: a Param is meant wherever it stands; a Decl is, where the nearest block around it reaches, and nowhere, if there is none.
func TestRaw(t *testing.T) {
	typ := api.Type{Base: api.Int, Marks: " "}
	v, a, b := api.Node{Kind: api.Var, Text: "x"}, api.Node{Kind: api.Decl, Text: "x", Type: typ}, api.Node{Kind: api.Param, Text: "x", Type: typ}
	of := func(kind int, kids ...int) api.Node { return api.Node{Kind: kind, Kids: kids} }
	for i, x := range []struct {
		nodes []api.Node // the last but one is the program's only class, what that is made of is the body, or holds it
		body  int
		code  api.Errno
	}{
		{[]api.Node{a, v, of(api.Init, 0, 1)}, 2, api.ErrMissing},
		{[]api.Node{b, v, of(api.Init, 0, 1)}, 2, api.OK},
		{[]api.Node{b, v, of(api.Init, 1, 0)}, 2, api.ErrMissing},
		{[]api.Node{a, of(api.Block, 0), v, of(api.Init, 1, 2)}, 3, api.ErrMissing},
		{[]api.Node{b, of(api.Block, 0), v, of(api.Init, 1, 2)}, 3, api.OK},
		{[]api.Node{a, of(api.Guard, 0), v, of(api.Block, 1, 2), of(api.Init, 3)}, 4, api.OK},
		{[]api.Node{a, v, of(api.Init, 0, 1), of(api.Block, 2)}, 2, api.OK},
		{[]api.Node{a, v, of(api.Init, 0, 1), of(api.Guard, 2), of(api.Block, 3)}, 2, api.OK},
		{[]api.Node{a, v, of(api.Init, 0, 1), of(api.Init, 2)}, 3, api.ErrMissing},
		{[]api.Node{b, of(api.Init, 0), v, of(api.Init, 1, 2)}, 3, api.OK},
		{[]api.Node{a, of(api.Block, 0), of(api.Init, 1), v, of(api.Init, 2, 3)}, 4, api.ErrMissing},
	} {
		n := len(x.nodes)
		p := api.Tree{Nodes: append(x.nodes, of(api.ClassOf, n-1), of(api.Program, n)), Root: n + 1}
		if got := newModel(p, x.body).hold(t); got != x.code {
			t.Errorf("%d: %d, not %d", i, got, x.code)
		}
	}
}

// The chapter's example.
func TestExample(t *testing.T) {
	s := found(t, "int f(int a) { int b = a; { b = a; } return b; }")
	if s.Len() != 2 || s.Find("a") != 0 || s.Find("b") != 1 || s.Find("f") != -1 || len(s.Uses(0)) != 2 || len(s.Uses(1)) != 2 || len(s.Sets(1)) != 2 || len(s.Sets(0)) != 0 {
		t.Errorf("%v", s.Locals())
	}
	if l := s.Locals(); !l[0].Param || l[1].Param || l[0].Name != "a" || l[1].Name != "b" || s.Slot(l[0].Node) != 0 || s.Slot(l[1].Node) != 1 {
		t.Errorf("%v", l)
	}
}

// P2: the program isn't changed, and changing it later, or what was answered, changes no answer; each answer is new memory.
func TestNewMemory(t *testing.T) {
	p, at := body(t, "int f(A? a) { A? b = a; b = a; b = a; a = b; }")
	was := tree.Clone(p)
	bytes := []byte("aA?")
	for i := range p.Nodes {
		if p.Nodes[i].Text == "a" {
			p.Nodes[i].Text = unsafe.String(&bytes[0], 1)
		}
		if p.Nodes[i].Type.Marks == "?" {
			p.Nodes[i].Type.Name, p.Nodes[i].Type.Marks = unsafe.String(&bytes[1], 1), unsafe.String(&bytes[2], 1)
		}
	}
	s, _ := Of(p, at)
	if !reflect.DeepEqual(p, was) {
		t.Fatal("the program is changed")
	}
	for i := range p.Nodes {
		clear(p.Nodes[i].Kids)
		p.Nodes[i] = api.Node{}
	}
	clear(bytes)
	want, _ := Of(was, at)
	for range 2 {
		if !reflect.DeepEqual(s.Locals(), want.Locals()) || s.Find("a") != 0 {
			t.Fatalf("%v", s.Locals())
		}
		for slot := range 2 {
			if !slices.Equal(s.Uses(slot), want.Uses(slot)) || !slices.Equal(s.Sets(slot), want.Sets(slot)) {
				t.Fatalf("%d: %v %v", slot, s.Uses(slot), s.Sets(slot))
			}
			clear(s.Uses(slot)[:cap(s.Uses(slot))])
			clear(s.Sets(slot)[:cap(s.Sets(slot))])
		}
		clear(s.Locals())
	}
	if unsafe.StringData(s.Locals()[0].Name) == unsafe.StringData(s.Locals()[0].Name) {
		t.Error("two answers share memory")
	}
}

// P1: as many nodes as there may be: all in one another, and all side by side.
func TestMany(t *testing.T) {
	deep := []api.Node{{Kind: api.Param, Text: "a", Type: api.Type{Base: api.Int, Marks: " "}}, {Kind: api.Var, Text: "a"}}
	wide := slices.Clone(deep)
	for len(deep) < tree.MaxNodes-2 {
		deep = append(deep, api.Node{Kind: api.Block, Kids: []int{len(deep) - 1}})
		wide = append(wide, api.Node{Kind: api.Var, Text: "a"})
	}
	n := len(deep)
	all := make([]int, n)
	for i := range all {
		all[i] = i
	}
	deep = append(deep, api.Node{Kind: api.Init, Kids: []int{0, n - 1}}, api.Node{Kind: api.Program, Kids: []int{n}})
	wide = append(wide, api.Node{Kind: api.Init, Kids: all}, api.Node{Kind: api.Program, Kids: []int{n}})
	if s, f := Of(api.Tree{Nodes: deep, Root: n + 1}, n); s == nil || !slices.Equal(s.Uses(0), []int{1}) {
		t.Errorf("deep: %v", f)
	}
	if s, f := Of(api.Tree{Nodes: wide, Root: n + 1}, n); s == nil || !slices.Equal(s.Uses(0), all[1:]) {
		t.Errorf("wide: %v", f)
	}
}
