package base

import (
	"strings"
	"testing"

	"caulker/api"
	"caulker/kind"
	"caulker/parse"
	"caulker/tree"
)

// others are classes beside Main: of objects that begin with an int, that come from these, and that have no init.
const others = `class A { int n; A? a; A[] all; init(int k) { this.n = k; } A? f(A? x, int y) { return x; } void g() { } B?[]? h() { return null; } }
class B extends A { str s; Option<A> o; init() { super(1); } int two(int p, double q) { return p; } }
class C extends B { bool t; }
class D { }
`

// read is a program that is read.
func read(t *testing.T, text string) api.Tree {
	t.Helper()
	p, f := parse.Parse(text)
	if f != (api.Fault{}) {
		t.Fatalf("%v of %s", f, text)
	}
	return p
}

// known is a program in which nothing is wrong.
func known(t *testing.T, text string) *Info {
	t.Helper()
	x, f := Of(read(t, text))
	if x == nil || f != (api.Fault{}) {
		t.Fatalf("%v of %s", f, text)
	}
	return x
}

// refused holds a program to that this is wrong in it where the @ stands, or at 0, if there is none.
func refused(t *testing.T, code api.Errno, text string) {
	t.Helper()
	at := max(strings.Index(text, "@"), 0)
	x, f := Of(read(t, strings.Replace(text, "@", "", 1)))
	if x != nil || f != (api.Fault{Code: code, At: at}) {
		t.Errorf("%v, not %d at %d, of %s", f, code, at, text)
	}
}

// inMain is a program whose Main has a method in which these statements stand, with a parameter of each sort.
func inMain(statements string) string {
	return others + "class Main { int z; int main() { return 1; } Main it(int i, double d, bool b, str s, A a, B? e, Option<A> o, A[] l, B?[]? m, int[][] w, D k) { " + statements + " return this; } }"
}

// P13.2: statements that are wrong where the @ stands.
func TestStatements(t *testing.T) {
	for code, list := range map[api.Errno][]string{
		api.ErrKind: {
			"int x = @d;", "A x = @k;", "B x = @a;", "A[] x = @new B[1];", "A[] x = @a;", "int x = @null;", "int x = @a.g();", "bool x = @i;", "str x = (@s + s == s);", "int[][] x = @w[0];", "double x = @1;",
			"i = @d;", "a = @l;", "e = @a;", "a.n = @s;", "l[0] = @k;", "l = @m;", "w[0][0] = @w[0];", "a.a = @true;", "o = @1;",
			"if (@i) { }", "if (@a) { } else { }", "while (@null) { }", "while (@s) { }", "if (@w[0]) { }",
			"return @a;", "return @1;", "return @none.n;", "print(@a);", "print(@null);", "print(@none);", "print(@w);", "print(@w[0]);", "print(@o);", "print(@a.g());", "print(@this);",
		},
		api.ErrPlace: {
			"@break;", "@continue;", "if (b) { @break; }", "while (b) { } @break;", "while (b) { break; } { @continue; }", "@super();", "@super(1);", "while (b) { @super(1); }",
		},
		api.ErrArgs: {"@return;", "if (b) { } else { @return; }"},
	} {
		for _, text := range list {
			refused(t, code, inMain(text))
		}
	}
	for _, text := range []string{
		"", "int x = 1; x = x; { x = i; } x = w[0][1];", "A x = e; x = a; x = null; x = o; x = new C(); Option<A> y = a; y = none; y = null;", "A[] x = l; x = null; x = none; A?[]? z = l; z = a.all;", "B?[] x = m; x = a.h();",
		"if (b) { } if (!b) { } else { return this; }", "while (b) { if (b) { break; } else { continue; } while (b) { } break; }", "while (b) { while (b) { } { { continue; } } }",
		"print(i); print(d); print(b); print(s); print(1); print(a.n);", "a.g(); a.f(null, 1); new A(1); e.f(e, i).g(); new B(); new Main();", "a.n = i; l[i] = e; w[i] = w[i]; w[i][i] = i; e.s = s; m[0] = null;",
		"return this; return null; return none; print(1);",
	} {
		known(t, inMain(text))
	}
}

// P13.2: what bodies answer: a method its type, a void one and an init nothing.
func TestAnswers(t *testing.T) {
	main := others + "class Main { int main() { return 1; } "
	refused(t, api.ErrArgs, main+"void x() { @return 1; } }")
	refused(t, api.ErrArgs, main+"void x() { @return this.x(); } }")
	refused(t, api.ErrArgs, main+"init() { @return null; } }")
	refused(t, api.ErrArgs, main+"int x() { @return; } }")
	refused(t, api.ErrKind, main+"int x() { return @this.y(); } void y() { } }")
	refused(t, api.ErrKind, main+"B x() { return @new A(1); } }")
	refused(t, api.ErrKind, main+"B[] x() { return @new C[1]; } }")
	refused(t, api.ErrArgs, main+"init() { while (true) { @return 1.5 + 1; } } }")
	known(t, main+"void x() { return; } A y() { return new C(); } init() { return; } void z() { } int w() { } Option<A> v() { return this.y(); } }")
}

// P13.2: an init calls the init of the class that its own one comes from, first of all, if there is one.
func TestSuper(t *testing.T) {
	main := others + "class Main { int main() { return 1; } } "
	for code, list := range map[api.Errno][]string{
		api.ErrPlace: {
			"class X extends A { @init() { } }", "class X extends A { @init() { int x; super(1); } }", "class X extends A { @init(int i) { { super(i); } } }", "class X extends C { @init() { print(1.5 + 1); } }",
			"class X extends A { init() { super(1); @super(1); } }", "class X extends A { init() { super(1); { @super(1); } } }",
			"class X extends D { init() { @super(); } }", "class X { init() { @super(); } }", "class X extends A { init() { super(1); } void x() { @super(1); } }", "class X extends A { void x() { @super(1); } }",
			"class Y extends D { init() { } } class X extends Y { @init() { } }", "class Y extends D { } class X extends Y { init() { @super(); } }",
		},
		api.ErrArgs: {
			"class X extends A { init() { @super(); } }", "class X extends A { init() { @super(1, 1); } }", "class X extends C { init() { @super(1); } }", "class X extends B { init(int i) { @super(i + 1.5); } }",
		},
		api.ErrKind: {
			"class X extends A { init() { super(@1.5); } }", "class X extends A { init(A a) { super(@a); } }", "class X extends A { init() { super(1 + @1.5); } }",
			"class X extends Y { init() { super(1, @2, 3); } } class Y { init(int a, A b, A c) { } }",
		},
	} {
		for _, text := range list {
			refused(t, code, main+text)
		}
	}
	for _, text := range []string{
		"class X extends A { init() { super(1); print(1); } } class Y extends X { } class Z extends Y { init(int a) { super(); } }", "class X extends A { }", "class X extends D { init() { } } class Y extends D { init() { print(1); } }",
		"class X extends Y { init(B b) { super(b, null, none); } } class Y { init(A a, A b, A c) { } }", "class X extends A { init(int i) { super(i + this.n); } }",
	} {
		known(t, main+text)
	}
}

// P13.3, P13.4: values that are wrong where the @ stands, wherever they are. What stands beside them is wrong, too, but later.
func TestWrongValues(t *testing.T) {
	for code, list := range map[api.Errno][]string{
		api.ErrKind: {
			"toint(@1)", "toint(@s)", "todouble(@d)", "todouble(@null)", "!@i", "!@a", "-@b", "-@s", "-@a", "-@w", "-@null", "!(!@i)",
			"ask(@i)", "ask(@s)", "ask(@null)", "ask(@none)", "@i!", "@null!", "@none!", "(@1 + 1)!", "some(@b)", "some(@null)", "some(@none)", "@i.val", "@s is some", "@i is none", "some(@w[0][0])", "some(@a.g())",
			"i + @d", "d + @i", "s + @i", "i + @s", "b + @b", "a + @a", "null + @null", "w + @w", "i - @d", "s - @s", "b * @i", "s / @s", "d % @d", "i % @b", "s % @s", "i < @d", "s < @s", "b <= @b", "a > @a", "null >= @null", "w[0] < @w[0]",
			"b && @i", "i || @b", "i && @i", "a || @a", "i == @d", "i == @b", "i == @null", "null != @i", "s == @null", "s != @i", "a == @k", "k != @e", "a == @l", "l != @m", "none == @none", "none == @a", "a != @none", "null == @none", "none != @null", "a == @i", "w == @w[0]", "a.g() == @a.g()",
			"@i.n", "@null.n", "@none.n", "@l.n", "@s.n", "@w[0].n", "@null.f(e, i)", "@i.f()", "@l.g()", "@a.g().g()", "@i[0]", "@a[0]", "@null[0]", "@none[1]", "@w[0][0][0]", "w[@d]", "w[@w]", "l[@null]", "w[0][@b]",
			"@a.length", "@s.length", "@i.length", "@null.length", "new int[@d]", "new A[@null]", "new A?[@l]",
			"cast<A>(@i)", "cast<A>(@s)", "cast<int>(@i)", "cast<int>(@a)", "cast<double>(@null)", "cast<A>(@none)", "cast<str>(@s)", "cast<D>(@a)", "cast<A>(@k)", "cast<A>(@l)", "cast<A[]>(@a)", "cast<B[]>(@l)", "cast<int[]>(@w)",
			"a.f(@i, 1)", "a.f(e, @d)", "a.f(@k, d)", "new A(@a)", "new A(@null)", "e.two(1, @1)", "a.f(a.f(e, @s), 1)", "a.f(@a.g(), 1)",
		},
		api.ErrMissing: {
			"@a.x", "@a.s", "@this.n", "@a.f", "@k.n", "@e.t", "@a.a.x", "@a.n()", "@a.x()", "@a.two(1, 1.5)", "@this.f(e, 1)", "@k.main()", "@a.len", "@this.Main()", "@a.x(i + d)",
		},
		api.ErrArgs: {
			"@a.f()", "@a.f(e)", "@a.f(e, 1, 1)", "@a.g(1)", "@a.f(1 + 1.5)", "@e.two(1)", "@new A()", "@new A(1, 2)", "@new B(1)", "@new C(1)", "@new D(1)", "@new Main(1)", "@new D(1 + 1.5)", "@this.it()",
		},
		api.ErrPlace: {
			"@a.a.val", "@a.a is some", "@a.a is none", "@this.val", "@this is none", "@l[0] is some", "@null is some", "@none.val", "@e!.val", "@o.val.val", "(@1 + 1.5).val", "(@i + d) is some", "@a.x is none", "@new A(1) is some",
		},
	} {
		for _, value := range list {
			refused(t, code, inMain("bool q = ("+value+") == this.nothing;"))
		}
	}
}

// inside is the program with a value in a statement, and the value's node.
func inside(t *testing.T, before, value, after string) (api.Tree, int) {
	t.Helper()
	text := inMain(before + value + after)
	p := read(t, text)
	at, node := strings.Index(text, before+value)+len(before), -1
	for i, n := range p.Nodes {
		if n.From == at && tree.Value(n.Kind) {
			node = i // the last one is the whole value
		}
	}
	return p, node
}

// told holds a value to its type.
func told(t *testing.T, value, want string) {
	t.Helper()
	before, after := want+" q = ", ";"
	if want == "null" || want == "none" || want == "void" {
		before, after = "bool q = ", ";"
	}
	p, node := inside(t, before, value, after)
	x, f := Of(p)
	if x == nil {
		t.Errorf("%v of %s", f, value)
	} else if got := kind.Show(x.Type(node)); got != want {
		t.Errorf("%s: %s, not %s", value, got, want)
	}
}

// P13.3 to P13.5: values and their types.
func TestTypes(t *testing.T) {
	for want, list := range map[string][]string{
		"int":             {"1", "input()", "i", "toint(d)", "-i", "-(-1)", "i + i", "i - i", "i * i", "i / i", "i % i", "a.n", "e.n", "this.z", "e.two(1, 1.5)", "this.main()", "w[0][1]", "l[i].n", "l.length", "w.length", "w[0].length", "m.length"},
		"double":          {"1.5", "d", "todouble(i)", "-d", "-(-1.5)", "d + d", "d - d", "d * d", "d / d"},
		"str":             {`"a"`, "s", "s + s", `"a" + s + "b"`, "e.s"},
		"bool":            {"true", "false", "b", "!b", "!!b", "i < i", "d <= d", "i > i", "d >= d", "d < d", "i <= i", "d > d", "i >= i", "b && b", "b || b", "i == i", "b == b", "d == d", "s == s", "i != i", "b != b", "d != d", "s != s", "null == null", "a == null", "null != m", "o == null", "a == e", "e != a", "a == o", "l == l", "w != null", "m == a.h()", "k == k", "null == w", "o is some", "e is none", "l is some", "w is none"},
		"Main":            {"this", "new Main()", "this!"},
		"Main?":           {"ask(this)"},
		"A":               {"a", "a!", "o!", "o.val", "a.val", "l[0]", "o.all[1]", "new A(1)", "cast<A>(e)", "cast<A>(null)"},
		"A?":              {"ask(a)", "ask(o)", "ask(ask(a)!)", "a.a", "e.a", "a.a.a", "a.f(e, i)", "e.f(null, 1)", "o.f(o, i)", "a.f(a.f(none, 1), i)", "cast<A?>(a)"},
		"B":               {"e!", "e.val", "new B()", "cast<B>(a)"},
		"B?":              {"e", "ask(e)", "m[i]", "a.h()[0]"},
		"C":               {"new C()", "cast<C>(o)"},
		"D":               {"k", "new D()"},
		"Option<A>":       {"o", "some(a)", "some(o)", "some(a.a)", "e.o", "cast<Option<A>>(a)"},
		"Option<B>":       {"some(e)"},
		"A[]":             {"l", "l!", "o.all", "new A[i]", "cast<A[]>(l)", "l.val"},
		"A[]?":            {"ask(l)"},
		"A?[]":            {"new A?[i]"},
		"A?[]?":           {"cast<A?[]?>(l)"},
		"B?[]":            {"m!", "m.val"},
		"B?[]?":           {"m", "ask(m)", "a.h()"},
		"Option<B?[]>":    {"some(m)"},
		"int[]":           {"w[0]", "new int[1]", "cast<int[]>(null)"},
		"int[][]":         {"w", "w!!"},
		"int[][]?":        {"ask(w)"},
		"Option<int[][]>": {"some(w)"},
		"bool[]":          {"new bool[1]"},
	} {
		for _, value := range list {
			told(t, value, want)
		}
	}
}
