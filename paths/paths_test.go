package paths

import (
	"math"
	"strconv"
	"strings"
	"testing"

	"caulker/api"
	"caulker/base"
	"caulker/parse"
	"caulker/tree"
)

// known is a program, all of whose values have types.
func known(t *testing.T, text string) *base.Info {
	t.Helper()
	p, f := parse.Parse(text)
	if f != (api.Fault{}) {
		t.Fatalf("%v of %s", f, text)
	}
	x, f := base.Of(p)
	if x == nil {
		t.Fatalf("%v of %s", f, text)
	}
	return x
}

// rest is what else a program has.
const rest = " } class A { int n; A a; int[] l; init(int k) { this.n = k; } int f(int i, A a) { return i; } } class B extends A { init() { super(1); } } "

// inMain is a program whose Main has a method in which these statements stand, which answers an int.
func inMain(statements string) string {
	return "class Main { int m; int main() { return 1; } int it(bool b, bool c, A p) { " + statements + " }" + rest
}

// checked is what is known of the ways of a program in which nothing is wrong.
func checked(t *testing.T, text string) *Report {
	t.Helper()
	x := known(t, text)
	r, f := Check(x)
	if r == nil || f != (api.Fault{}) {
		t.Fatalf("%v of %s", f, text)
	}
	hold(t, x)
	return r
}

// refused holds a program to that this is wrong in it where the @ stands.
func refused(t *testing.T, code api.Errno, text string) {
	t.Helper()
	x := known(t, strings.Replace(text, "@", "", 1))
	if r, f := Check(x); r != nil || f != (api.Fault{Code: code, At: strings.Index(text, "@")}) {
		t.Errorf("%v, not %d at %d, of %s", f, code, strings.Index(text, "@"), text)
	}
	hold(t, x)
}

// P14.1, P14.2: names that may have no value, where the @ stands.
func TestUnset(t *testing.T) {
	for _, text := range []string{
		"int x; return @x;", "int x; { print(@x); x = 1; }", "A x; @x.n = 1;", "int[] x; @x[0] = 1;", "int x; p.l[@x] = 1;", "int x; x = @x;", "int x; x = 1 + @x * 2;", "int x; int y = @x;", "bool x; if (@x) { }", "bool x; while (@x) { x = b; }",
		"int x; if (b) { x = 1; } return @x;", "int x; if (b) { } else { x = 1; } return @x;", "int x; if (b) { x = 1; } else { if (c) { x = 2; } } return @x;", "int x; if (b) { return @x; } x = 1;",
		"int x; while (b) { x = 1; } return @x;", "int x; while (true) { x = 1; break; } return @x;", "int x; while (true) { x = 1; } return @x;", "int x; while (b) { if (c) { x = 1; continue; } print(@x); }", "int x; while (b) { while (c) { x = 1; } print(@x); }",
		"int x; if (true) { x = 1; } return @x;", "int x; if (1 < 0) { return @x; } x = 1;", "while (b) { int x; if (c) { x = 1; } print(@x); }", "while (b) { int x; print(@x); x = 1; }", "while (b) { int x; if (b) { x = 1; continue; } else { break; } } while (c) { int y; print(@y); }",
		"int x; int y; x = 1; print(x + @y); print(x);", "int x; int y; print(p.f(@x, null) + y);", "A x; print(@x.f(1, x));", "int x; new A(@x);", "int x; A[] l = new A[@x];", "int x; p.f(1, new A(-@x));", "A x; bool y = b || @x == null;", "A x; return cast<B>(@x).n;", "A x; A y = ask(p)!; y = some(@x);",
		"int x; int y; if (b) { x = 1; } else { y = 1; } print(@y); print(x);", "int x; if (b) { return 1; } print(@x);", "int x; x = 1; int y; { int z; z = x; print(@y + z); }",
	} {
		refused(t, api.ErrUnset, inMain(text+" return 1;"))
	}
	for _, text := range []string{
		"int x; x = 1; return x;", "int x = 1; return x;", "int x; { { x = 1; } } return x;", "int x; if (b) { x = 1; } else { x = 2; } return x;", "int x; if (b) { x = 1; } else { return 2; } return x;", "int x; if (b) { return 1; } x = 2; return x;",
		"int x; return 1; print(x);", "int x; while (b) { break; print(x); } return 1;", "int x; while (b) { continue; print(x); } return 1;", "int x; while (b) { x = 1; print(x); } x = 1; return x;", "int x; while (b) { if (c) { break; } else { x = 1; } print(x); } return 1;",
		"int x; return 1; { if (x == 1) { return x; } while (x == 1) { x = x; } }", "int x; if (b) { return 1; } else { return 2; } return x;", "int x; if (b) { if (c) { x = 1; } else { return 2; } } else { x = 3; } return x;",
		"while (b) { int x; x = 1; while (c) { print(x); } } return 1;", "A x; x = p; x.n = 1; x.l[x.n] = 2; return x.n;", "A x; p.a = p; x = p.a; return x.f(1, x);", "while (b) { int x; if (c) { continue; } else { x = 1; } print(x); } return 1;",
		"b = c; p = p.a; return p.n;", "int x; while (b) { return 1; print(x); } return 2;",
	} {
		checked(t, inMain(text))
	}
}

// P14.1, P14.2: methods that may not answer, and such as need not.
func TestReturn(t *testing.T) {
	main := "class Main { int main() { return 1; } "
	for _, text := range []string{
		"@int x() { }", "@A x() { A y = null; }", "@int x(bool b) { if (b) { return 1; } }", "@int x(bool b) { if (b) { } else { return 1; } }", "@int x(bool b) { if (b) { return 1; } else { } }", "@int x() { while (true) { return 1; } }", "@int x() { while (true) { } }",
		"@int x() { while (true) { break; return 1; } }", "@int x(bool b) { if (b) { return 1; } else { if (b) { return 2; } } }", "@bool[] x() { { { } } }", "@int x(bool b) { while (b) { if (b) { return 1; } else { return 2; } } }",
	} {
		refused(t, api.ErrReturn, main+text+rest)
	}
	for _, text := range []string{
		"int x() { return 1; print(1); }", "int x() { { return 1; } }", "int x(bool b) { if (b) { return 1; } else { { return 2; } } }", "int x(bool b) { while (b) { } return 1; }", "void x() { }", "void x(bool b) { if (b) { return; } }", "init() { }", "init() { return; }", "init() { while (true) { return; } }",
		"int x(bool b) { if (b) { while (b) { } return 1; } else { return 2; } while (b) { } }",
	} {
		checked(t, main+text+rest)
	}
}

// P14.1: of several things that are wrong, the first body's is told, and in it the first name, ahead of that it doesn't answer.
func TestFirst(t *testing.T) {
	main := "class Main { int main() { return 1; } "
	for code, list := range map[api.Errno][]string{
		api.ErrUnset: {
			"int x() { int y; print(@y); } void z() { int w; print(w); }", "int x(bool b) { int y; if (b) { return 1; } int z = @y + y; }", "int x(bool b) { int y; int z; while (b) { print(@z); } print(y); }",
			"init() { int v; print(v); } void x() { int y; { print(@y); } }", "void x() { int y; int z; print(@z + y); }", "init() { int v; print(@v); } int x() { return 2; }",
		},
		api.ErrReturn: {"@int x() { } void y() { int z; print(z); }", "int y() { return 1; } @int x() { int z; } int w() { }"},
	} {
		for _, text := range list {
			refused(t, code, main+text+rest)
		}
	}
	refused(t, api.ErrReturn, main+"void x() { } init() { }"+rest+"class C { @int f() { } init() { int z; print(z); } }")
	refused(t, api.ErrUnset, main+"init() { int z; print(@z); }"+rest+"class C { int f() { } }")
}

// P14.3: which statements are reached.
func TestReached(t *testing.T) {
	for _, x := range []struct{ text, want string }{
		{"print(1); return 1; print(2); { print(3); }", "1"},
		{"if (b) { print(1); return 1; print(2); } else { print(3); } print(4); return 5; print(6);", "1 3 4"},
		{"if (b) { return 1; } else { return 2; } print(1); while (b) { print(2); } if (b) { print(3); }", ""},
		{"while (true) { print(1); break; print(2); } print(3); return 1;", "1 3"},
		{"while (b) { print(1); continue; print(2); } print(3); return 1;", "1 3"},
		{"while (b) { if (c) { break; print(1); } else { continue; } print(2); } print(3); return 1;", "3"},
		{"while (b) { return 1; } print(1); return 2;", "1"},
		{"{ { return 1; } print(1); }", ""},
		{"while (b) { while (c) { break; } print(1); while (c) { continue; } print(2); return 1; print(3); } return 1;", "1 2"},
		{"if (false) { print(1); } while (false) { print(2); } return 1;", "1 2"},
	} {
		p := known(t, inMain(x.text))
		r := checked(t, inMain(x.text))
		var said []string
		for i := range p.Len() {
			if n := p.Node(i); n.Kind == api.Print && r.Reached(i) {
				said = append(said, strconv.FormatInt(p.Node(n.Kids[0]).N, 10))
			}
		}
		if got := strings.Join(said, " "); got != x.want {
			t.Errorf("%s: %s, not %s", x.text, got, x.want)
		}
	}
}

// P14.3, P14.4: what is no statement is not reached, and no body doesn't fall.
func TestNone(t *testing.T) {
	text := inMain("while (b) { print(1); } return 1;")
	x, r := known(t, text), checked(t, text)
	for i := range x.Len() {
		if r.Reached(i) != tree.Stat(x.Node(i).Kind) {
			t.Errorf("%d: %t", i, r.Reached(i))
		}
	}
	for _, i := range []int{-1, x.Len(), math.MinInt, math.MaxInt} {
		if r.Reached(i) || r.Falls(i) {
			t.Errorf("%d", i)
		}
	}
	if r.Falls(len(x.Bodies())) {
		t.Error("a body that there isn't")
	}
}

// P14.4: which bodies' ends are reached.
func TestFalls(t *testing.T) {
	if r := checked(t, "class A { void f() { } } class Main { int main() { return 1; } }"); !r.Falls(0) || r.Falls(1) || r.Falls(2) {
		t.Error("of two bodies")
	}
	text := `class Main { int main() { return 1; } void a() { } void b() { return; } void c(bool x) { if (x) { return; } } void d(bool x) { if (x) { return; } else { return; } } void e(bool x) { while (x) { return; } }
void f() { while (true) { } } void g() { { return; } print(1); } init() { return; } } class C { init() { } } class D extends C { init() { super(); } }`
	r := checked(t, text)
	for i, want := range []bool{false, true, false, true, false, true, true, false, false, true, true} {
		if r.Falls(i) != want {
			t.Errorf("%d: %t", i, r.Falls(i))
		}
	}
}

// The chapter's example.
func TestExample(t *testing.T) {
	checked(t, inMain("int a; if (input() > 0) { a = 1; } else { return 2; } return a;"))
	refused(t, api.ErrUnset, inMain("int a; if (input() > 0) { a = 1; } return @a;"))
}

// P14.1: as many locals as there may be, each a bit of its own.
func TestManyLocals(t *testing.T) {
	for unset := range 64 {
		text := ""
		for i := range 64 {
			text += "int a" + strconv.Itoa(i) + "; "
		}
		for i := range 64 {
			if i != unset {
				text += "a" + strconv.Itoa(i) + " = 1; "
			}
		}
		for i := range 64 {
			at := ""
			if i == unset {
				at = "@"
			}
			text += "print(" + at + "a" + strconv.Itoa(i) + "); "
		}
		refused(t, api.ErrUnset, "class Main { int main() { "+text+" return 1; } }")
	}
}

// P2: the program that is looked at answers as before; two reports hang on nothing but that.
func TestAlone(t *testing.T) {
	x := known(t, inMain("while (b) { print(1); } return 1;"))
	r, _ := Check(x)
	other, _ := Check(known(t, inMain("return 1;")))
	again, _ := Check(x)
	for i := range x.Len() {
		if r.Reached(i) != again.Reached(i) {
			t.Errorf("%d", i)
		}
	}
	if r == again || other == nil {
		t.Error("the same report")
	}
}

// P14.1: the first name is that which comes first in the program, whatever its number.
func TestRawOrder(t *testing.T) {
	typ := api.Type{Base: api.Int, Marks: " "}
	name := func(from int) api.Node {
		return api.Node{Kind: api.Var, Text: "x", Span: api.Span{From: from, To: from + 1}}
	}
	of := func(kind int, kids ...int) api.Node { return api.Node{Kind: kind, Kids: kids} }
	for _, order := range [][]int{{6, 1, 3, 5}, {6, 1, 5, 3}, {6, 3, 1, 5}, {6, 3, 5, 1}, {6, 5, 1, 3}, {6, 5, 3, 1}} {
		p := api.Tree{Root: 10, Nodes: []api.Node{
			name(50), of(api.Print, 0), name(70), of(api.Print, 2), name(60), of(api.Print, 4), {Kind: api.Decl, Text: "x", Type: typ},
			{Kind: api.Block, Kids: order}, {Kind: api.Method, Text: "main", Type: typ, Kids: []int{7}}, {Kind: api.ClassOf, Text: "Main", Kids: []int{8}}, {Kind: api.Program, Kids: []int{9}},
		}}
		x, f := base.Of(p)
		if x == nil {
			t.Fatal(f)
		}
		want := api.Fault{Code: api.ErrUnset, At: p.Nodes[order[1]-1].From}
		if r, f := Check(x); r != nil || f != want {
			t.Errorf("%v, not %v", f, want)
		}
		hold(t, x)
	}
}

// P1: as many statements in one another as there may be.
func TestDeep(t *testing.T) {
	typ := api.Type{Base: api.Int, Marks: " "}
	p := api.Tree{Nodes: []api.Node{{Kind: api.Block}}}
	last := 0
	for len(p.Nodes) < tree.MaxNodes-10 {
		p.Nodes = append(p.Nodes, api.Node{Kind: api.BoolLit}, api.Node{Kind: api.While, Kids: []int{last + 1, last}}, api.Node{Kind: api.Block, Kids: []int{last + 2}})
		last += 3
	}
	p.Nodes = append(p.Nodes, api.Node{Kind: api.IntLit}, api.Node{Kind: api.Return, Kids: []int{last + 1}}, api.Node{Kind: api.Block, Kids: []int{last, last + 2}})
	p.Nodes = append(p.Nodes, api.Node{Kind: api.Method, Text: "main", Type: typ, Kids: []int{last + 3}}, api.Node{Kind: api.ClassOf, Text: "Main", Kids: []int{last + 4}}, api.Node{Kind: api.Program, Kids: []int{last + 5}})
	p.Root = last + 6
	x, f := base.Of(p)
	if x == nil {
		t.Fatal(f)
	}
	if r, f := Check(x); r == nil || r.Falls(0) || !r.Reached(0) || !r.Reached(last+2) {
		t.Errorf("%v", f)
	}
}
