package strict

import (
	"math"
	"slices"
	"strings"
	"testing"

	"caulker/api"
	"caulker/tree"
)

// P20.3: of which values something is asked.
func TestAsked(t *testing.T) {
	rows(t, []row{
		{"@1a.V();", "Asked var1 a0 -"}, {"i = @1a.N;", "Asked var1 a0 -"}, {"i = @1l.length;", "Asked var1 l1 -"}, {"a = @1l[0];", "Asked var1 l1 -"}, {"@1a.N = 1;", "Asked var1 a0 -"}, {"@1l[0] = a;", "Asked var1 l1 -"}, {"@1a.Q.N = 1;", "Asked var1 a0 -, Asked get1 Q0 -"}, {"(@1a).V();", "Asked var1 a0 -"},
		{"@1b.Q.V();", "Asked get1 Q0 -"}, {"@1ask(b).V();", "Asked ask1 - -"}, {"@1b.G(null).V();", "Asked call1 A.G0 -"}, {"@1m[0].V();", "Asked index1 m0 -"}, {"@1cast<A?>(b).V();", "Asked cast1 cast0 -"}, {"@1z[0][1] = a;", "Asked index1 z1 -"}, {"i = @1z[0].length;", "Asked index1 z1 -"}, {"i = @1b.L.length;", "Asked get1 L1 -"},
		{"a!.V(); this.V(); new A(b, k).V(); b.S.V(); b.H(b).V(); k[0].V(); cast<A>(b).V(); i = a!.N + l!.length + k.length; l![0] = a; b.S.N = 1; k[0].S = b; z[0]![1] = a;", ""}, {"if (a != null) { a.V(); a.S.V(); @1a.Q.V(); }", "Asked get1 Q0 -"}, {"if (l == null) { return; } l[0] = a; i = l.length;", ""},
		{"o = some(@1a);", "Asked var1 a0 -"}, {"o = some(@1b.Q);", "Asked get1 Q0 -"}, {"o = some(@1o);", "Option var1 o0 -"}, {"o = some(b); o = some(a!); o = some(this);", ""}, {"if (a != null) { o = some(a); }", ""}, {"Option<A?[]> x = some(@1l);", "Asked var1 l1 -"}, {"o = some(@1ask(@2o)!);", "Option var2 o0 -"},
		{"@1o.V();", "Option var1 o0 -"}, {"i = @1o.N;", "Option var1 o0 -"}, {"@1o.N = 1;", "Option var1 o0 -"}, {"@1b.O.V();", "Option get1 O0 -"}, {"@1b.P().V();", "Option call1 A.P0 -"}, {"if (o is some) { @1o.V(); }", "Option var1 - -"}, {"Option<A?[]> x = none; i = @1x.length; x[0] = x[1];", "Option var1 x1 -, Option var x1 -, Option var x1 -"}, {"@1some(b).V();", "Option some1 - -"},
		{"p = @1o == null;", "Option var1 o0 -"}, {"p = null != @1o;", "Option var1 o0 -"}, {"p = @1o == @2b.O;", "Option var1 o0 -, Option get2 O0 -"}, {"p = a != @1b.P();", "Option call1 A.P0 -"}, {"p = @1b.Q.O == @2o;", "Asked get1 Q0 -, Option get1 O0 -, Option var2 o0 -"}, {"if (o is some) { p = @1o != @2a.S; }", "Asked var2 a0 -, Option var1 - -"},
		{"p = a == b || null == a && l != m || i == 1 && p == false; p = i < 2; i = i + 1; p = a == a.S;", "Asked var a0 -"}, {"a = ask(@1o);", "Option var1 o0 -"}, {"a = ask(a); a = ask(b); l = ask(l); a = ask(a!);", ""}, {"b = @1o!;", "Option var1 o0 -"}, {"b = @1b.O!;", "Option get1 O0 -"}, {"b = a!; b = b!; a = a!!; k = b.K!;", ""},
		{"p = @1a is some;", "Option var1 a0 -"}, {"p = @1b is none;", "Option var1 - -"}, {"p = o is some || o is none; if (o is none) { p = o is some; }", ""}, {"if (a != null) { p = @1a is some; }", "Option var1 - -"},
		{"b = @1o.val;", "Asked var1 o0 -"}, {"if (o is some) { b = o.val; o.val.V(); }", ""}, {"if (o is none) { b = @1o.val; } else { b = o.val; }", "Asked var1 o0 -"}, {"b = @1a.val;", "Option var1 a0 -, Asked var1 a0 -"}, {"b = @1b.val;", "Option var1 - -"}, {"if (a != null) { b = @1a.val; }", "Option var1 - -"}, {"o = some(b); o.val.V(); o = none; @1o.val.V();", "Asked var1 o0 -"},
		{"o.val.V();", "Asked var o0 -"}, {"return; o.val.V(); a.V(); o = some(a); p = @1o == null;", "Option var1 - -"}, {"p = @1l is some;", "Option var1 l1 -"}, {"while (o is some) { b = o.val; o = b.O; } b = @1o.val;", "Asked var1 o0 -"},
	})
}

// P20.1, P20.3: whether what is asked of a local tells that it isn't null.
func TestAsks(t *testing.T) {
	for _, x := range []struct{ statements, with, without string }{
		{"@1a.V(); @2a.V();", "Asked var1 a0 -", "Asked var1 a0 -, Asked var2 a0 -"}, {"@1a.N = @2a.N;", "Asked var1 a0 -", "Asked var1 a0 -, Asked var2 a0 -"}, {"@1a.V(); a = ask(a); @2a.V();", "Asked var1 a0 -, Asked var2 a0 -", "Asked var1 a0 -, Asked var2 a0 -"}, {"@1a.V(); b = @2a;", "Asked var1 a0 -", "Asked var1 a0 -, Flows var2 a0 b0"},
		{"if (@1a.N > 0) { b.H(@2a); } else { @3a.V(); }", "Asked var1 a0 -", "Asked var1 a0 -, Flows var2 a0 h0, Asked var3 a0 -"}, {"if (p) { @1a.V(); } @2a.V();", "Asked var1 a0 -, Asked var2 a0 -", "Asked var1 a0 -, Asked var2 a0 -"}, {"a!.V(); a.V();", "", ""}, {"i = @1l.length; @2l[0] = @3l[1];", "Asked var1 l1 -", "Asked var1 l1 -, Asked var2 l1 -, Asked var3 l1 -"},
	} {
		text := inBody(x.statements)
		if s := told(t, text, true); s != x.with {
			t.Errorf("%s: %s, not %s", x.statements, s, x.with)
		}
		if s := told(t, text, false); s != x.without {
			t.Errorf("%s: %s, not %s", x.statements, s, x.without)
		}
	}
}

// P20.4: fields that may be seen without a value, at each cause.
func TestUnborn(t *testing.T) {
	for _, x := range []struct{ text, want string }{
		{"class A { A a; A? b; Option<A> c; int d; int[] e; A[]? f; A?[] g; str h; @1init() { } }", "Unborn init1 - a0, Unborn init1 - e1, Unborn init1 - g1"}, {"@1class A { A[][] a; A?[]?[]? b; bool c; }", "Unborn class1 - a2"}, {"class A { A a; A? b; init() { this.a = new A(); } }", ""},
		{"class A { A a; A b; @1init(A o) { if (input() > 0) { @2return; } o = @3this.a; @4this.V(); this.a = o; } void V() { } }", "Unborn return2 - a0, Unborn get3 - a0, Unborn this4 - a0, Unborn return2 - b0, Unborn this4 - b0, Unborn init1 - b0"},
		{"class A { init() { this.V(); } void V() { } } class B extends A { B b; B? c; @1init() { super(); } }", "Unborn init1 - b0, Unborn init1 - b0"}, {"class A { init() { this.V(); } void V() { } } class B extends A { B b; @1init(B o) { super(); this.b = o; } }", "Unborn init1 - b0"},
		{"class A { A a; int i; init(A x, int n) { this.a = x; this.i = n; } int n() { return 1; } } class B extends A { init() { super(@1this.a, @2this.n() + this.i); } }", "Unborn get1 - a0, Unborn this2 - a0"},
	} {
		tells(t, main+x.text, x.want)
	}
}

// P20.4: arrays whose elements are null at first.
func TestEmpty(t *testing.T) {
	rows(t, []row{
		{"k = @1new A[2];", "Empty array1 - array0"}, {"k = @1new A[0];", "Empty array1 - array0"}, {"k = @1new A[@2new A[1].length];", "Empty array2 - array0, Empty array1 - array0"}, {"int[] x = new int[2]; bool[] y = new bool[1]; m = new A?[2]; z = new A?[]?[3]; str[]?[] q = new str[]?[1];", ""},
		{"int[][] x = @1new int[][2];", "Empty array1 - array1"}, {"w = @1new A?[][2];", "Empty array1 - array1"}, {"k = @1new A?[2];", "Differ array1 array0 k0"}, {"m = @1new A[2];", "Empty array1 - array0, Differ array1 array0 m0"}, {"l = @1new A[@2a.N];", "Asked var2 a0 -, Empty array1 - array0, Differ array1 array0 l0"}, {"A[]?[] x = new A[]?[2]; return; k = @1new A[1];", "Empty array1 - array0"},
	})
}

// P20.4: methods that go over others.
func TestBelow(t *testing.T) {
	for _, x := range []struct{ text, want string }{
		{"class A { A g(A a) { return a; } } class B extends A { @1A? g(A b) { return b; } }", "Below method1 B.g0 A.g0"}, {"class A { A g(A? a) { return this; } } class B extends A { @1A g(A b) { return b; } }", "Below method1 a0 b0"}, {"class A { A? g(A a) { return a; } } class B extends A { A g(A? b) { return this; } }", ""},
		{"class A { Option<A> g(A? a, A[] b, Option<A> c, A?[]? d) { return none; } } class B extends A { @1A g(A e, A?[] f, A? h, A[] k) { return this; } }", "Below method1 a0 e0, Differ method1 b0 f0, Option method1 c0 h0, Below method1 d1 k1, Differ method1 d0 k0, Option method1 B.g0 A.g0"},
		{"class A { void g(A? a, int i) { } } class B extends A { } class C extends B { @1void g(A b, int i) { } } class D extends C { void g(A? c, int i) { } } class E extends D { @2void g(A d, int i) { } }", "Below method1 a0 b0, Below method2 c0 d0"}, {"class A { A?[] g() { return new A?[1]; } } class B extends A { @1A[]? g() { return null; } }", "Below method1 B.g1 A.g1, Differ method1 B.g0 A.g0"},
		{"class A { void g(A? a) { } void h(A a) { } } class B extends A { void k(A a) { } @1void g(A b) { } void h(A c) { } } class C extends A { int x; A?[] y(A[] q) { return new A?[2]; } init(A a) { this.x = 1; } }", "Below method1 a0 b0"}, {"class A { init(A? a) { } } class B extends A { init(A b) { super(b); } } class C extends B { init() { super(new A(null)); } }", ""},
		{"class B extends A { @1void g(A b) { } } class A { void g(A? a) { } }", "Below method1 a0 b0"}, {"class A { A g() { return this; } A[] h() { return cast<A[]>(this.h()); } } class B extends A { A? g; A?[]? h; }", ""},
	} {
		tells(t, main+x.text, x.want)
	}
}

// P20.5: all that is wrong: fields, then methods, then bodies, class by class; values ahead of what they come to.
func TestOrder(t *testing.T) {
	tells(t, main+"class A { A x; @1init(A? o) { @2this.V(@3o); @0o.V(null); this.x = @4o; } void V(A? v) { @5v.V(@6v); this.x = @7v; } } class B extends A { B y; @8void V(A u) { } @9init() { super(@anone); } }",
		"Unborn this2 - x0, Unborn init9 - y0, Unborn init9 - y0, Below method8 v0 u0, Asked var5 v0 -, Flows var7 v0 x0, Asked var0 o0 -, Flows var4 o0 x0, Option nonea - o0")
	rows(t, []row{
		{"@1a.G(@2l[0]).H(@3m[@4a.N]);", "Asked var1 a0 -, Asked var2 l1 -, Asked call1 A.G0 -, Asked var4 a0 -, Flows index3 m0 h0"}, {"@1l[@2a.N] = @3l[@4a.N];", "Asked var1 l1 -, Asked var2 a0 -, Asked var3 l1 -, Asked var4 a0 -"}, {"@1a.S = @2a.Q;", "Asked var1 a0 -, Asked var2 a0 -, Flows get2 Q0 S0"},
		{"A x = @1a; if (@2a.N > 0) { b = @3a; } else { b.H(@4a); } while (@5a.N > @6a.N) { @7a.V(); } { print(@8a.N); }", "Flows var1 a0 x0, Asked var2 a0 -, Flows var3 a0 b0, Flows var4 a0 h0, Asked var5 a0 -, Asked var6 a0 -, Asked var7 a0 -, Asked var8 a0 -"}, {"new A(@1a, @2l); new A(cast<A>(@3a), new A[@4a.N]);", "Flows var1 a0 s0, Flows var2 l1 t1, Differ var2 l0 t0, Flows var3 a0 cast0, Asked var4 a0 -, Empty array - array0"},
		{"i = -@1a.N + @2a.N * toint(todouble(@3a.N)); p = !(@4a == null || @5a.N > 0 && @6o == null);", "Asked var1 a0 -, Asked var2 a0 -, Asked var3 a0 -, Option var6 o0 -"},
	})
}

// P20.5: the error of each kind of issue, of what is none, too.
func TestCode(t *testing.T) {
	for what, want := range map[int]api.Errno{Flows: api.ErrNull, Differ: api.ErrKind, Asked: api.ErrNull, Unborn: api.ErrBorn, Empty: api.ErrNull, Below: api.ErrOver, Option: api.ErrKind, 0: api.ErrNull, -1: api.ErrNull, 8: api.ErrNull, math.MaxInt: api.ErrNull} {
		if e := (Issue{Kind: what, At: 7, Want: Nowhere()}).Code(); e != want {
			t.Errorf("%d: %v", what, e)
		}
	}
	if (Nowhere() != Place{-1, -1}) {
		t.Error("Nowhere")
	}
}

// P20.5: nothing is wrong just if there are no issues.
func TestRight(t *testing.T) {
	for text, want := range map[string]bool{"": true, "b = a;": false, "a = b;": true, "@1a.V(); b = a;": false} {
		text, _ := labels(inBody(text))
		if r := Look(known(t, text), false); r.Right() != want || (len(r.Issues()) == 0) != want {
			t.Errorf("%s: %v", text, r.Issues())
		}
	}
	text := inBody("Main n = null; A? x = b; x = ask(x); x.V(); x.V();")
	if r := Look(known(t, text), true); len(r.Issues()) != 2 || r.Right() {
		t.Errorf("%v", r.Issues())
	}
}

// P20.6: what is wrong with a text, ahead of all that is named behind it; where the label stands.
func TestProgram(t *testing.T) {
	class := " class A { A? q; "
	for _, x := range []struct {
		text        string
		fits, right api.Errno
	}{
		{main, api.OK, api.OK}, {main + class + "A g() { return this; } }", api.OK, api.OK}, {inBody("a = b;"), api.OK, api.OK}, {"", api.ErrMain, 0}, {"@", api.ErrMain, 0},
		{main + class + "void g(A a) { a = null @} } class", api.ErrToken, 0}, {main + class + "void g() { int x; print(x); A a = null; print(@$); } }", api.ErrSign, 0}, {main + class + "void g() { int x; print(x); A a = this.q; print(1 + @true); } }", api.ErrKind, 0}, {main + class + "A ?@", api.ErrToken, 0},
		{main + class + "void g() { A a = this.q; int x; print(@x); } int h() { } }", api.ErrUnset, 0}, {main + class + "A r; void g() { A a = this.q; } @int h() { } }", api.ErrReturn, 0}, {main + class + "void g() { A a = nul; } @void g(int k) { } }", api.ErrTwice, 0},
		{main + class + "void g() { A a = @this.q; a = null; } }", api.OK, api.ErrNull}, {main + class + "void g() { @this.q.g(); } }", api.OK, api.ErrNull}, {main + class + "void g() { A[] a = @new A[1]; } }", api.OK, api.ErrNull}, {main + class + "void g(A?[] a) { A[] b = @a; b = null; } }", api.OK, api.ErrKind}, {main + class + "void g(Option<A> a) { print(@a == null); a = null; } }", api.OK, api.ErrKind},
		{main + "@class A { A q; void g() { this.q = null; } }", api.OK, api.ErrBorn}, {main + "class A { A q; init() { this.q = @this.q; } }", api.OK, api.ErrBorn}, {main + class + "void g(A? a) { } } class B extends A { void h() { A x = null; } @void g(A a) { } }", api.OK, api.ErrOver}, {main + class + "void g(A? a) { @a.g(a); } }", api.OK, api.ErrNull},
	} {
		at := max(strings.Index(x.text, "@"), 0)
		text := strings.Replace(x.text, "@", "", 1)
		fits := api.Fault{Code: x.fits}
		if x.fits != api.OK {
			fits.At, x.right = at, x.fits
		}
		right := api.Fault{Code: x.right}
		if x.right != api.OK {
			right.At = at
		}
		if i, f := Fits(text); f != fits || (i == nil) != (f.Code != api.OK) {
			t.Errorf("Fits of %s: %v", text, f)
		}
		if i, f := Program(text); f != right || (i == nil) != (f.Code != api.OK) || i != nil && tree.Form(i.Tree(), i.Len()-1) != tree.Form(known(t, text).Tree(), i.Len()-1) {
			t.Errorf("Program of %s: %v", text, f)
		}
	}
}

// P20.6: without asks.
func TestProgramAsks(t *testing.T) {
	text := inBody("@1a.V(); a.V();")
	text, places := labels(text)
	if x, f := Program(text); x != nil || f.Code != api.ErrNull || places[f.At] != "1" {
		t.Errorf("%v", f)
	}
}

// P2: the answers are in memory of their own, and the program stays as it is.
func TestAlone(t *testing.T) {
	x := known(t, inBody("b = a; a.V(); k = m;"))
	form := tree.Form(x.Tree(), x.Tree().Root)
	r := Look(x, false)
	list, more := r.Issues(), r.Issues()
	if len(list) != 3 || !slices.Equal(list, more) {
		t.Fatalf("%v, %v", list, more)
	}
	clear(list)
	_ = append(list[:1], Issue{Kind: 7})
	if !slices.Equal(r.Issues(), more) || r.Right() || !slices.Equal(Look(x, false).Issues(), more) || tree.Form(x.Tree(), x.Tree().Root) != form {
		t.Error("not the same any more")
	}
}
