package dead

import (
	"slices"
	"strings"
	"testing"

	"caulker/api"
	"caulker/base"
	"caulker/plan"
	"caulker/strict"
	"caulker/tree"
)

// main is what each program has.
const main = "class Main { int main() { return 1; } } "

// in is a program with a block in a method f of A, some of whose parameters may be null.
func in(block string) string {
	return main + "class A { int n; A? f; A s; init(A a) { this.s = a; } bool k(A? a, bool b) { return b; } bool f(A p, A? q, Option<A> o, A?[] l, A[]? m) { " + block + " return true; } } class B { }"
}

// fits is a text's program.
func fits(t *testing.T, text string) *base.Info {
	t.Helper()
	x, f := strict.Fits(text)
	if x == nil {
		t.Fatalf("%v, at %s", f, text[f.At:])
	}
	return x
}

// P26.1 to P26.3: which checks are found, and what is put in their place.
func TestChecks(t *testing.T) {
	for block, want := range map[string]string{
		"bool b = p == null;":                               "bool b = false;",
		"bool b = p != null;":                               "bool b = true;",
		"bool b = null == p;":                               "bool b = false;",
		"bool b = null!=p;":                                 "bool b = true;",
		"bool b = q == null;":                               "bool b = q == null;",
		"bool b = null != m;":                               "bool b = null != m;",
		"bool b = l != null;":                               "bool b = true;", // the mark isn't its last one
		"bool b = p == p;":                                  "bool b = p == p;",
		"bool b = p == q;":                                  "bool b = p == q;",
		"bool b = this == null;":                            "bool b = this == null;", // no local
		"bool b = this.s == null;":                          "bool b = this.s == null;",
		"bool b = p.s != null;":                             "bool b = p.s != null;",
		"bool b = q! == null;":                              "bool b = q! == null;",
		"bool b = cast<A>(p) == null;":                      "bool b = cast<A>(p) == null;",
		"bool b = null == null;":                            "bool b = null == null;",
		"bool b = p == cast<A?>(null);":                     "bool b = p == cast<A?>(null);",
		"if (q != null) { bool b = q != null; }":            "if (q != null) { bool b = q != null; }", // its type says that it may be
		"A? a = p; bool b = a == null;":                     "A? a = p; bool b = a == null;",
		"A a = p; bool b = a == null;":                      "A a = p; bool b = false;",
		"A?[]?[] a = new A?[]?[2]; while (a != null) { }":   "A?[]?[] a = new A?[]?[2]; while (true) { }",
		"int[] a = new int[2]; bool b = a != null;":         "int[] a = new int[2]; bool b = true;",
		"int[]? a = new int[2]; bool b = a != null;":        "int[]? a = new int[2]; bool b = a != null;",
		"A a; bool b; a = p; b = null == a;":                "A a; bool b; a = p; b = false;",
		"bool b = o is some; b = o is none;":                "bool b = o is some; b = o is none;",
		"Option<A> a = o; bool b = a is some;":              "Option<A> a = o; bool b = a is some;",
		"bool b = !(p == null) && (null == p || p!=null);":  "bool b = !(false) && (false || true);",
		"bool b = p == null == (q == null) == (l != null);": "bool b = false == (q == null) == (true);",
		"if (p == null) { return false; } else { }":         "if (false) { return false; } else { }",
		"while (p == null || input() > 0) { break; }":       "while (false || input() > 0) { break; }",
		"print(this.k(null, this.k(p, p == null)));":        "print(this.k(null, this.k(p, false)));",
		"return p == null; print(p != null);":               "return false; print(true);",
		"return(p)==null;":                                  "return false;",
		"return((null))!=((p));":                            "return true;",
		"return null!=(p);":                                 "return true;",
		"bool b=(p) == null||(p)!= null&&p==(null);":        "bool b= false|| true&&false;",
		"bool b = p // so\n == // and\n null; b = true;":    "bool b = false; b = true;",
		"bool b = (p == null);":                             "bool b = (false);",
		"p = new A(p); print(p != null); p.n = 1;":          "p = new A(p); print(true); p.n = 1;",
		"": "",
	} {
		if got, _ := hold(t, in(block)); got != in(want) {
			t.Errorf("%s: %s", block, got)
		}
	}
}

// P26.1: the checks, by their nodes, and what each always is; of a program with which something is wrong, too.
func TestFind(t *testing.T) {
	text := in("bool b = null == p || q == null; if ((p) != null) { p = q; q.n = 1; b = l == null; }")
	x := fits(t, text)
	var got []string
	last := -1
	for _, c := range Find(x) {
		n := x.Node(c.Node)
		got = append(got, text[n.From:n.To]+map[bool]string{true: " true", false: " false"}[c.Is])
		if n.Kind != api.Binary || c.Node <= last {
			t.Errorf("%+v", c)
		}
		last = c.Node
	}
	if want := "null == p false, (p) != null true, l == null false"; strings.Join(got, ", ") != want {
		t.Errorf("%s, not %s", strings.Join(got, ", "), want)
	}
}

// P26.2: each change: in the place of what, of what kind, at which node.
func TestChanges(t *testing.T) {
	text := in("bool b = null == p || (p) != null; b = p!=(null);")
	x := fits(t, text)
	var got []string
	for _, c := range Changes(x) {
		got = append(got, text[c.From:c.To]+"/"+c.Text)
		if c.Kind != plan.Dead || c.Place.Layer != -1 || x.Node(c.Place.Node).Span != c.Span || x.Node(c.Place.Node).Kind != api.Binary {
			t.Errorf("%+v", c)
		}
	}
	if want := []string{"null == p/false", "(p) != null/ true", "p!=(null)/true"}; !slices.Equal(got, want) {
		t.Errorf("%q, not %q", got, want)
	}
}

// P26.1: the checks of all bodies: of inits, and of methods that no one calls.
func TestBodies(t *testing.T) {
	text := "class A { init(A? q) { A a = this; print(a == null); print(q == null); } void g(A p) { print(p == null); } } class B extends A { init() { super(null); B b = this; print(null != b); } } class Main { int main() { Main m = this; while (m == null) { } return 1; } }"
	if got, n := hold(t, text); n != 4 || strings.Count(got, "null") != 2 {
		t.Errorf("%d: %s", n, got)
	}
}

// P26.3: layer 20's Program's faults.
func TestFaults(t *testing.T) {
	for _, x := range []struct {
		text, at string
		code     api.Errno
	}{
		{in("print(p == null); q.n = 1;"), "q.n = 1", api.ErrNull},
		{in("print(p == null); p = q;"), "q;", api.ErrNull},
		{in("print(p == null); A? a = o;"), "o;", api.ErrKind},
		{in("print(p == null); print(o == null);"), "o == null", api.ErrKind},
		{in("print(p == null); }"), "return true", api.ErrToken},
		{in("print(p == 1);"), "1); return", api.ErrKind},
		{in("print(n == null);"), "n == null", api.ErrMissing},
		{in("A a; print(a == null);"), "a == null", api.ErrUnset},
		{"", "", api.ErrMain},
	} {
		want := api.Fault{Code: x.code, At: strings.LastIndex(x.text, x.at)}
		if got, n, f := Remove(x.text); got != "" || n != 0 || f != want {
			t.Errorf("%s: %d, %v, not %v: %s", x.text, n, f, want, got)
		}
	}
}

// P26.2, P26.3: the chapter's example.
func TestExample(t *testing.T) {
	with := func(value string) string {
		return "class Main { void f(Main m) { if (" + value + ") { print(1); } } int main() { return 1; } }"
	}
	if got, n := hold(t, with("m == null || null != m && input() > 0")); n != 2 || got != with("false || true && input() > 0") {
		t.Errorf("%d: %s", n, got)
	}
}

// P26.3: what is made has no such checks any more.
func TestTwice(t *testing.T) {
	once, n := hold(t, in("print(p == null || (l) != null);"))
	if again, k := hold(t, once); n != 2 || k != 0 || again != once || len(Find(fits(t, once))) != 0 {
		t.Errorf("%d, %d: %s", n, k, again)
	}
	if tree.Same(fits(t, once).Tree(), fits(t, in("")).Tree()) {
		t.Error(once)
	}
}
