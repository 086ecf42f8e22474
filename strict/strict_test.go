package strict

import (
	"strconv"
	"strings"
	"testing"

	"caulker/api"
	"caulker/base"
	"caulker/parse"
	"caulker/tree"
)

// known is a program, all of whose values have types.
func known(t *testing.T, text string) *base.Info {
	t.Helper()
	p, f := parse.Parse(text)
	if f != (api.Fault{}) {
		t.Fatalf("%v, at %s", f, text[f.At:])
	}
	x, f := base.Of(p)
	if x == nil {
		t.Fatalf("%v, at %s", f, text[f.At:])
	}
	return x
}

// labels are a text without its labels (an @ and a digit), and which of these stand where.
func labels(text string) (string, map[int]string) {
	parts := strings.Split(text, "@")
	clean, places := parts[0], map[int]string{}
	for _, part := range parts[1:] {
		places[len(clean)] += part[:1]
		clean += part[1:]
	}
	return clean, places
}

// words are what issues are called.
var words = []string{"", "Flows", "Differ", "Asked", "Unborn", "Empty", "Below", "Option"}

// said is a place: what its node is called (a method with its class), and the layer; a - is none.
func said(x *base.Info, p Place) string {
	if p == Nowhere() {
		return "-"
	}
	n := x.Node(p.Node)
	switch n.Kind {
	case api.Method:
		n.Text = x.Bodies()[x.Within(p.Node)].Owner + "." + n.Text
	case api.NewArray, api.Cast:
		n.Text = tree.Name(n.Kind)
	}
	return n.Text + strconv.Itoa(p.Layer)
}

// told is what is wrong with a program: of each issue what, at which kind of node, and the label there, from where, and to where.
func told(t *testing.T, text string, asks bool) string {
	t.Helper()
	text, places := labels(text)
	x := known(t, text)
	var list []string
	for _, i := range Look(x, asks).Issues() {
		n := x.Node(i.At)
		list = append(list, words[i.Kind]+" "+tree.Name(n.Kind)+places[n.From]+" "+said(x, i.From)+" "+said(x, i.Want))
	}
	hold(t, x, asks)
	hold(t, x, !asks)
	return strings.Join(list, ", ")
}

// tells holds what is told of a program to this.
func tells(t *testing.T, text, want string) {
	t.Helper()
	if s := told(t, text, false); s != want {
		t.Errorf("%s: %s, not %s", text, s, want)
	}
}

// main is what each program has.
const main = "class Main { int main() { return 1; } } "

// inBody is a program in which nothing is wrong but for these statements.
func inBody(statements string) string {
	return main + "class A { int N; A? Q; A S; A?[]? L; A[] K; Option<A> O; init(A s, A[] t) { this.S = s; this.K = t; } A? G(A? g) { return g; } A H(A h) { return h; } A?[] M(A[]? u, A?[]? v, Option<A> w) { return new A?[1]; } Option<A> P() { return none; } void V() { } " +
		"void f(A? a, A b, A?[]? l, A?[] m, A[] k, A?[][] w, A?[]?[] z, Option<A> o, bool p, int i) { " + statements + " } } class B extends A { init(A c, A[] d, A? q, Option<A> r) { super(c, d); } }"
}

// row is some statements, and what is wrong with them.
type row struct{ statements, want string }

// rows holds what is told of statements to these.
func rows(t *testing.T, list []row) {
	t.Helper()
	for _, r := range list {
		tells(t, inBody(r.statements), r.want)
	}
}

// P20.1: where marks are from.
func TestFrom(t *testing.T) {
	rows(t, []row{
		{"A x = @1a;", "Flows var1 a0 x0"}, {"A? y = ask(b); A x = @1y;", "Flows var1 y0 x0"}, {"A x = @1b.Q;", "Flows get1 Q0 x0"}, {"A x = @1b.G(null);", "Flows call1 A.G0 x0"}, {"A x = @1cast<A?>(b);", "Flows cast1 cast0 x0"}, {"A x = @1m[0];", "Flows index1 m0 x0"},
		{"A x = @1ask(b);", "Flows ask1 - x0"}, {"A x = @1ask(ask(a)!);", "Flows ask1 - x0"}, {"A x = @1null;", "Flows null1 - x0"}, {"A x = b; x = b.S; x = b.H(b); x = this; x = new B(b, k, a, o); x = a!; x = k[0]; x = cast<A>(b);", ""},
		{"A x = @1some(b);", "Option some1 - x0"}, {"Option<A> y = @1a!;", "Option guard1 - y0"}, {"Option<A> y = @1a;", "Option var1 a0 y0"}, {"Option<A> y = @1b;", "Option var1 - y0"}, {"if (a != null) { Option<A> y = @1a; }", "Option var1 - y0"}, {"Option<A> y = @1this;", "Option this1 - y0"},
		{"A x = @1o;", "Option var1 o0 x0"}, {"if (o is some) { A x = @1o; }", "Option var1 - x0"}, {"if (o is some) { Option<A> x = @1o.val; }", "Option val1 - x0"}, {"A x = @1none;", "Option none1 - x0"}, {"Option<A> y = @1cast<A?>(a);", "Option cast1 cast0 y0"}, {"Option<A> y = @1b.S;", "Option get1 S0 y0"}, {"Option<A> y = @1b.H(b);", "Option call1 A.H0 y0"}, {"Option<A> y = @1k[i];", "Option index1 k0 y0"},
		{"A[]? x = @1new A?[1];", "Differ array1 array0 x0"}, {"Option<A?[]> x = @1new A?[2];", "Option array1 - x1"}, {"A[] x = @1m;", "Differ var1 m0 x0"}, {"A[]? x = @1b.L;", "Differ get1 L0 x0"}, {"A[] x = @1b.M(null, null, o);", "Differ call1 A.M0 x0"}, {"A[] x = @1cast<A?[]>(m);", "Differ cast1 cast0 x0"},
		{"A[]? x = @1ask(m);", "Differ ask1 m0 x0"}, {"A[] x = @1l!;", "Differ guard1 l0 x0"}, {"if (l != null) { A[] x = @1l; }", "Differ var1 l0 x0"}, {"Option<A[]> x = @1some(m);", "Differ some1 m0 x0"}, {"Option<A?[]> y = some(m); A[] x = @1y.val;", "Differ val1 y0 x0"}, {"A[]? x = @1ask(l!);", "Differ ask1 l0 x0"},
		{"A[] x = @1w[0];", "Differ index1 w0 x0"}, {"A x = @1w[0][1];", "Flows index1 w0 x0"}, {"A?[] x = @1z[0];", "Flows index1 z1 x1"}, {"A x = @1z[0]![1];", "Flows index1 z0 x0"}, {"A x = @1l![0];", "Flows index1 l0 x0"}, {"A x = @1new A?[2][0];", "Flows index1 array0 x0"}, {"A[]? x = @1new A?[]?[2][0];", "Differ index1 array0 x0"}, {"A?[] x = @1new A?[]?[2][0];", "Flows index1 array1 x1"},
		{"A x = @1cast<A?[]>(m)[0];", "Flows index1 cast0 x0"}, {"A x = @1b.M(null, null, o)[0];", "Flows index1 A.M0 x0"}, {"A x = @1b.L![0];", "Flows index1 L0 x0"},
	})
}

// P20.1, P20.2: what is known of a local where it comes to a type, and of what it is.
func TestKnown(t *testing.T) {
	rows(t, []row{
		{"if (a == null) { b = @1a; return; } b = a; b.S = a; a = null; b = @2a;", "Flows var1 a0 b0, Flows var2 a0 b0"}, {"while (a != null) { b = a; a = ask(a); } b = @1a;", "Flows var1 a0 b0"}, {"if (a != null && i > 0) { b = a; } else { b = @1a; }", "Flows var1 a0 b0"},
		{"a = b; b = a; A? x = a; b = x; x = @1null; a = x; b = @2a;", "Flows var2 a0 b0"}, {"return; b = a; b.S = a; a.V(); b = @1null; b.S = @2b.Q;", "Flows null1 - b0, Flows get2 Q0 S0"},
	})
}

// P20.2: which values come to which types.
func TestComes(t *testing.T) {
	rows(t, []row{
		{"b = @1a;", "Flows var1 a0 b0"}, {"b.S = @1a;", "Flows var1 a0 S0"}, {"k[0] = @1a;", "Flows var1 a0 k0"}, {"b.K[0] = @1a;", "Flows var1 a0 K0"}, {"b.H(@1a);", "Flows var1 a0 h0"}, {"b.H(b.H(@1a));", "Flows var1 a0 h0"}, {"new A(@1a, @2null);", "Flows var1 a0 s0, Flows null2 - t1"},
		{"new B(@1a, @2m, @3o, @4a);", "Flows var1 a0 c0, Differ var2 m0 d0, Option var3 o0 q0, Option var4 a0 r0"}, {"b = cast<A>(@1a);", "Flows var1 a0 cast0"}, {"a = cast<B>(@1a);", "Flows var1 a0 cast0"}, {"a = cast<A?>(b); a = cast<B?>(a);", ""}, {"k = cast<A[]>(@1m);", "Differ var1 m0 cast0"}, {"k = cast<A[]>(@1l);", "Flows var1 l1 cast1, Differ var1 l0 cast0"},
		{"a = b; a = null; a = new B(b, k, null, none); m[0] = null; b.Q = null; b.L = m; b.L![0] = a; b.G(a); o = none; o = some(b); b.O = o; w[0] = m; z[0] = l; z[1] = null; l = z[0];", ""}, {"w[0] = @1k;", "Differ var1 k0 w0"}, {"w[0] = @1l;", "Flows var1 l1 w1"}, {"w[0][1] = null; z[0]![1] = a; k[0] = m[0]!; m[0] = k[0];", ""},
		{"a = @1none; o = @2null; b = @3none; m[0] = @4o; b.O = @5b; b.M(@6k, @7k, @8this);", "Option none1 - a0, Option null2 - o0, Option none3 - b0, Option var4 o0 m0, Option var5 - O0, Differ var7 k0 v0, Option this8 - w0"}, {"i = 1; p = true; double d = 1.5; str s = \"\"; int j = i;", ""}, {"l = @1none; Option<A?[]> x = @2l; x = @3null; k = @4x;", "Option none1 - l1, Option var2 l1 x1, Option null3 - x1, Option var4 x1 k1, Differ var4 x0 k0"},
	})
}

// P20.2: arguments come to the parameters of the nearest method or init, wherever that stands.
func TestNearest(t *testing.T) {
	for _, x := range []row{
		{"class A { init(A? a) { } } class B extends A { init(A b) { super(b); } } class C extends B { init(A? c) { super(@1c); } }", "Flows var1 c0 b0"}, {"class A { init(A a) { } } class B extends A { } class C extends B { init(A? c) { super(@1c); new B(@2c); new C(c); } }", "Flows var1 c0 a0, Flows var2 c0 a0"},
		{"class A { void g(A? a) { } } class B extends A { @1void g(A b) { } } class C extends B { void h(A? x, B y, C z) { this.g(@2x); y.g(@3x); z.g(@4x); cast<A>(z).g(x); } }", "Below method1 a0 b0, Flows var2 x0 b0, Flows var3 x0 b0, Flows var4 x0 b0"}, {"class A { A? f; A? g() { return this.f; } } class B extends A { A h(C c) { return @1c.f; } } class C extends B { A h(C c) { return @2c.g(); } }", "Flows get1 f0 B.h0, Flows call2 A.g0 C.h0"},
	} {
		tells(t, main+x.statements, x.want)
	}
}
