package demand

import (
	"slices"
	"strings"
	"testing"

	"caulker/api"
	"caulker/base"
	"caulker/parse"
	"caulker/strict"
)

// known is a program, all of whose values have types.
func known(t *testing.T, text string) *base.Info {
	t.Helper()
	p, f := parse.Parse(text)
	if f != (api.Fault{}) {
		t.Fatalf("%v, at %s", f, text[f.At:])
	}
	x, f := base.Of(p)
	if x == nil {
		t.Fatalf("%v, at %s", f, text[f.At:])
	}
	return x
}

// find is what is demanded in a program, held to the model.
func find(t *testing.T, x *base.Info) *Result {
	t.Helper()
	r, f := Find(x)
	if r == nil || f != (api.Fault{}) {
		t.Fatal(f)
	}
	hold(t, x, r)
	return r
}

// params are a program's parameters: what each is called, with its class, and its method (of an init nothing), by its node.
func params(x *base.Info) map[int]string {
	names := map[int]string{}
	for _, b := range x.Bodies() {
		n := x.Node(b.Node)
		for _, kid := range n.Kids[:len(n.Kids)-1] {
			names[kid] = b.Owner + "." + n.Text + "." + x.Node(kid).Text
		}
	}
	return names
}

// told is which parameters are demanded by their own bodies, and, behind a bar, which by all that may be meant.
func told(t *testing.T, text string) string {
	t.Helper()
	x := known(t, text)
	r := find(t, x)
	var alone, all []string
	names := params(x)
	for node := range x.Len() {
		if r.Alone(node) {
			alone = append(alone, names[node])
		}
		if r.Is(node) {
			all = append(all, names[node])
		}
	}
	return strings.Join(alone, " ") + " | " + strings.Join(all, " ")
}

// main is what each program has.
const main = "class Main { int main() { return 1; } } "

// P23.1: a parameter is demanded, if all ways out of its body ask something of it, or find that it isn't null.
func TestAlone(t *testing.T) {
	for _, body := range []string{
		// what is asked
		"print(a.n);", "a.f();", "a.n = 1;", "a.a = null;", "a.a = a;", "a.a.a.a = null;", "int k = a.n + 1;", "i = a.n;", "this.g(a.a, null, null, 1, true);", "this.a = a.f();",
		"{ { print(a.n); } }", "print(a.n); a.f(); a.n = 2;", "a.g(a, null, null, 1, true);", "this.a.g(a.a, null, null, a.n, a == null);", "print(1 + (2 - a.n) * 3);", "a.f().f();", "new A(a.a);", "A[] d = new A[a.n];",
		"l[a.n] = a; ", "a.a = l[0];", "print(l[a.n].n);",
		// on all ways
		"if (p) { print(a.n); } else { a.f(); }", "if (p) { a.f(); return; } a.n = 1;", "if (p) { if (i > 0) { a.f(); } else { a.f(); } } else { a.f(); }", "if (p) { } else { } a.f();", "if (a.n > 0) { return; }", "while (a.n > 0) { return; }", "while (p) { } a.f();", "while (p) { a.f(); } a.f();",
		"while (a.n > 0) { a.n = a.n - 1; }", "while (p) { if (i > 0) { break; } } a.f();", "while (p && a.n > 0) { a.f(); } a.f();", "if (a.n > 0 && p) { }", "if (a.n > 0 || p) { }", "p = a.n > 0 && i > 0;", "if (!(a.n > 0)) { }", "if (p && i > 0) { a.f(); return; } else { print(a.n); }",
		// what is held against null
		"if (a == null) { while (a == null) { } }", "while (a == null) { }", "while (null == a) { }", "while (a == null || p) { }", "while (p || a.n > 0) { }", "while (!(a != null)) { }", "while (a == null) { p = true; } a.f();", "while (a == null) { b.f(); }",
		"if (a == null) { a.f(); }", "if (a != null) { } else { print(a.n); }", "if (a != null) { return; } a.f();", "if (a == null) { a.f(); return; } return;", "if (a != null && p) { return; } a.f();", "if (a == null && p) { a.f(); } else { if (p) { a.f(); } else { a.f(); } }",
		// what is guarded
		"b = a!;", "a!.f();", "this.a = (a)!;", "if (a! == null) { }", "this.g(a!, b, l, i, p);",
		// where no way leads
		"a.f(); return; print(1);", "if (p) { a.f(); return; } else { a.f(); return; } return;",
	} {
		if got := told(t, main+"class A { int n; A a; init(A x) { } A f() { return this; } void g(A a, A b, A[] l, int i, bool p) { "+body+" } }"); !strings.Contains(got, "A.g.a") {
			t.Errorf("%s: %s", body, got)
		}
	}
}

// P23.1: it isn't, if one way asks nothing of it, or it gets another value.
func TestNotAlone(t *testing.T) {
	for _, body := range []string{
		"", "return;", "print(i);", "this.a = a;", "b.f();", "this.g(a, b, l, i, p);", "b = a;", "b = a; b.f();", "A c = a; c.f();", "this.a = ask(a); this.a.f();", "cast<A>(a).f();", "ask(a).f();", "l[0] = a; l[0].f();", "{ A c = this; c.f(); }",
		// not on all ways
		"if (p) { a.f(); }", "if (p) { a.f(); } else { }", "if (p) { return; } a.f();", "if (p) { a.f(); } else { return; }", "while (p) { a.f(); }", "while (p) { break; a.f(); }", "while (p) { if (i > 0) { break; } a.f(); return; }", "while (p) { if (i > 0) { return; } a.f(); } a.f();", "while (true) { a.f(); }", "if (a == null) { while (true) { } }", "while (true) { if (p) { break; } a.f(); }", "while (true) { if (p) { return; } a.f(); }",
		"if (p && a.n > 0) { }", "if (p || a.n > 0) { }", "p = p && a.n > 0;", "p = i > 0 || a.n > 0;", "if (p && a.n > 0) { a.f(); }", "if (p || a.n > 0) { return; } else { a.f(); }",
		// what is held against null
		"if (a == null) { }", "if (a != null) { a.f(); }", "if (a == null) { return; } a.f();", "if (a == null) { return; } return;", "if (a != null) { return; } return;", "if (null != a) { a.f(); } else { print(1); }", "while (a != null) { }", "while (a == null) { break; }", "while (a == null) { return; }", "while (a == null && p) { }", "if (a == b) { }", "print(a == null);", "p = a != null;", "if ((a == null) == true) { while (true) { } }",
		// another value
		"a = this; a.f();", "a.f(); a = b;", "a.f(); a = null;", "if (p) { a = this; } a.f();", "while (a == null) { a = this; }", "while (a == null) { a = a.a; } a.f();", "a.f(); while (p) { a = a.a; }", "a.f(); return; a = b;", "while (true) { a = this; }", "a.f(); { { if (p) { a = this; } } }", "b.f(); a = b!; a.f();",
	} {
		if got := told(t, main+"class A { int n; A a; A f() { return this; } void g(A a, A b, A[] l, int i, bool p) { "+body+" } }"); strings.Contains(got, "A.g.a") {
			t.Errorf("%s: %s", body, got)
		}
	}
}

// P23.1: which parameters, of which types.
func TestTypes(t *testing.T) {
	for _, x := range []struct{ text, want string }{
		{"class A { void g(A a, int i, bool b, str s, double d) { a.g(a, i, b, s, d); print(i + 1); print(s + s); print(d + d); if (b) { } } }", "A.g.a | A.g.a"},
		{"class A { int n; void g(A[] a, A[][] b, int[] c, int[][] d, A[] e) { print(a[0].n); b[0] = null; print(c.length); d[1][2] = 3; A f = e[0]; } }", "A.g.a A.g.b A.g.c A.g.d A.g.e | A.g.a A.g.b A.g.c A.g.d A.g.e"},
		{"class A { A g(A a) { return a.g(null); } int h(A a) { return 1; } A i(A a) { while (a == null) { } return this; } A j(A a) { if (a != null) { return a; } return a.j(null); } A k(A a) { return a; } A l(A a) { return a!; } A m(A a) { return a.m(a); } }", "A.g.a A.i.a A.j.a A.l.a A.m.a | A.g.a A.i.a A.j.a A.l.a A.m.a"},
		{"class A { int n; A a; init(A a, A b, A c) { print(a.n); this.a = b; b.n = 1; if (c == null) { return; } print(c.n); } }", "A..a A..b | A..a A..b"},
		{"class A { A a; init(A a) { a.a = this; } } class B extends A { init(A a, A b) { super(a.a); b.a = a; } }", "A..a B..a B..b | A..a B..a B..b"},
		{"class A { init() { } void g() { } void h(A a) { a.g(); } }", "A.h.a | A.h.a"},
		{"class A { void g() { A a = null; a.g(); } }", " | "},
		// marks that there are, and options
		{"class A { int n; void g(A? a, A b, A?[]? c, A[]? d, A?[] e, A f) { print(a.n + b.n + c.length + d.length + e.length); } }", "A.g.a A.g.b A.g.c A.g.d A.g.e | A.g.a A.g.b A.g.c A.g.d A.g.e"},
		{"class A { int n; A g(Option<A> a, Option<A[]> b) { if (a is some) { return a.val; } while (true) { } } void h(Option<A> a) { while (a is none) { } } }", " | "},
		{"class A { A a; A? b; void g(A a) { A c = a; c.g(c); } void h(A a) { this.b = a; this.b.h(a); } }", " | "},
	} {
		if got := told(t, main+x.text); got != x.want {
			t.Errorf("%s: %s, not %s", x.text, got, x.want)
		}
	}
}

// P23.1: a type says that a parameter may be null, whatever it said before: so a local that gets it is not known to be none, either.
func TestOthers(t *testing.T) {
	for _, x := range []struct{ text, want string }{
		{"class A { int n; void g(A a, A b) { b = a; while (b == null) { } } }", " | "},
		{"class A { int n; void g(A a, A b) { while (a == null) { } A c = b; while (c == null) { } } }", "A.g.a | A.g.a"},
		{"class A { int n; void g(A a) { A b = a; if (b == null) { return; } print(a.n); } }", " | "},
	} {
		if got := told(t, main+x.text); got != x.want {
			t.Errorf("%s: %s, not %s", x.text, got, x.want)
		}
	}
}

// P23.2: of a method all are asked that may be meant, of an init none but itself.
func TestIs(t *testing.T) {
	for _, x := range []struct{ text, want string }{
		{"class A { int n; void g(A a) { a.n = 1; } } class B extends A { void g(A b) { b.n = 2; } }", "A.g.a B.g.b | A.g.a B.g.b"},
		{"class A { int n; void g(A a) { a.n = 1; } } class B extends A { void g(A b) { } }", "A.g.a | "},
		{"class A { int n; void g(A a) { } } class B extends A { void g(A b) { b.n = 2; } }", "B.g.b | "},
		{"class B extends A { void g(A b) { b.n = 2; } } class A { int n; void g(A a) { } }", "B.g.b | "},
		{"class A { int n; } class B extends A { void g(A b) { b.n = 1; } } class C extends A { void g(A c) { } }", "B.g.b | B.g.b"},
		{"class A { int n; void g(A a) { a.n = 1; } } class B extends A { void g(A b) { b.n = 1; } } class C extends A { void g(A c) { } }", "A.g.a B.g.b | "},
		{"class A { int n; void g(A a) { a.n = 1; } } class B extends A { } class C extends B { void g(A c) { c.n = 2; } } class D extends C { void g(A d) { print(d.n); } }", "A.g.a C.g.c D.g.d | A.g.a C.g.c D.g.d"},
		{"class A { int n; void g(A a) { a.n = 1; } } class B extends A { } class C extends B { void g(A c) { c.n = 2; } } class D extends C { void g(A d) { d = this; } }", "A.g.a C.g.c | "},
		{"class D extends C { void g(A d) { d.n = 1; } } class C extends B { } class B extends A { void g(A b) { } } class A { int n; } class E extends A { void g(A e) { e.n = 1; } }", "D.g.d E.g.e | E.g.e"},
		{"class A { int n; void g(A a, A b) { a.n = 1; } } class B extends A { void g(A b, A a) { b.n = 1; a.n = 2; } }", "A.g.a B.g.b B.g.a | A.g.a B.g.b"},
		{"class A { int n; void g(A a, A b) { a.n = 1; } } class B extends A { void g(A b, A a) { a.n = 1; } }", "A.g.a B.g.a | "},
		{"class A { int n; void g(A a) { a.n = 1; } void h(A a) { a.n = 1; } } class B extends A { void h(A b) { } void g(A b) { b.n = 1; } }", "A.g.a A.h.a B.g.b | A.g.a B.g.b"},
		{"class A { int n; init(A a) { a.n = 1; } } class B extends A { init(A b) { super(b); } } class C extends A { init(A c) { super(null); c.n = 1; } }", "A..a C..c | A..a C..c"},
		{"class A { int n; void g(A a) { a.n = 1; } } class B { int n; void g(A a) { } }", "A.g.a | A.g.a"},
		{"class A { int n; int g(A? a) { return a.n; } } class B extends A { int g(A b) { return b.n; } }", "A.g.a B.g.b | A.g.a B.g.b"},
	} {
		if got := told(t, main+x.text); got != x.want {
			t.Errorf("%s: %s, not %s", x.text, got, x.want)
		}
	}
}

// P23.3: the last layers of the types, by their nodes.
func TestPlaces(t *testing.T) {
	x := known(t, main+"class B extends A { A[][] g(int i, A[][] b, A?[] c) { b[0][0] = c[0]; while (true) { } } } class A { A[] a; init(A[] a, A d) { print(a.length); } A[][] g(int j, A[][] e, A[] f) { f[0].a = e[0]; return e; } int h(A k) { return k.a.length; } void i(A[][][][]? l) { l[0] = null; } void i2(A m) { } }")
	r := find(t, x)
	names := params(x)
	var got []string
	places := r.Places()
	for _, p := range places {
		if p.Layer != x.Node(p.Node).Type.Dims {
			t.Errorf("%v", p)
		}
		got = append(got, names[p.Node])
	}
	if want := "B.g.b B.g.c A..a A.g.e A.g.f A.h.k A.i.l"; strings.Join(got, " ") != want || !slices.IsSortedFunc(places, func(a, b strict.Place) int { return a.Node - b.Node }) {
		t.Errorf("%s, not %s", got, want)
	}
	if list := find(t, known(t, main)).Places(); len(list) != 0 {
		t.Errorf("%v", list)
	}
}

// P23.1 to P23.3: the chapter's example.
func TestExample(t *testing.T) {
	got := told(t, "class Main { int main() { return 1; } int f(Main a, Main b) { if (b == null) { return 1; } return a.main() + b.main(); } int g(Main a) { return a.main(); } }")
	if got != "Main.g.a | Main.g.a" {
		t.Error(got)
	}
}
