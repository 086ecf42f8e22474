package infer

import (
	"slices"
	"testing"

	"caulker/api"
	"caulker/strict"
	"caulker/tree"
)

// P22.2 to P22.4: which places get marks, which values are guards, and along which steps.
func TestMarks(t *testing.T) {
	rows(t, false, []row{
		{"class A { A f; init() { this.f = new A(); } A g() { return this.f; } }", ": 1"},
		{"class A { A f; int n; A g() { return @1this.f; } }", "f0 A.g0: Unborn class - f0, Flows get1 f0 A.g0, 3"},
		{"class A { A g(A a) { A b = @1a; this.g(@2null); return @3b; } }", "a0 b0 A.g0: Flows null2 - a0, Flows var1 a0 b0, Flows var3 b0 A.g0, 4"},
		{"class A { A g(A a) { return @1cast<A>(@2null); } }", "cast10 A.g0: Flows null2 - cast10, Flows cast1 cast10 A.g0, 3"},
		{"class A { A g(A a) { return @1ask(a); } }", "A.g0: Flows ask1 - A.g0, 2"},
		{"class A { void g(A a) { this.g(@1null); this.g(@2null); this.g(@3ask(a)); } }", "a0: Flows null1 - a0, Flows null2 - a0, Flows ask3 - a0, 2"},
		{"class A { void g() { int[][] a = @1new int[][2]; int[] b = @2a[0]; } }", "array11 a1 b1: Empty array1 - array11, Differ array1 array11 a1, Flows index2 a1 b1, 4"},
		{"class A { void g() { A[][] a = @1new A[][2]; @3a[0][1] = @2null; } }", "array10 array11 a0 a1 !index3: Differ array1 a0 array10, Empty array1 - array11, Flows null2 - a0, Differ array1 array11 a1, 3"},
		{"class A { void g(A[] a, A[] b) { a = @1b; a[0] = @2null; } }", "a0 b0: Flows null2 - a0, Differ var1 a0 b0, 3"},
		{"class A { void g(A[] a, A[] b) { a = @1b; b[0] = @2null; } }", "a0 b0: Differ var1 b0 a0, Flows null2 - b0, 3"},
		{"class A { void g(A[] a, A[] b) { @4b[0] = @1null; b = @2null; a = @3b; } }", "a0 a1 b0 b1 !var4: Differ var3 b0 a0, Flows var3 b1 a1, Flows null1 - b0, Flows null2 - b1, 3"},
		{"class A { A f; void g() { A a = @1this.f; if (a != null) { this.f = a; A b = a; b.g(); } } }", "f0 a0: Unborn class - f0, Flows get1 f0 a0, 3"},
		{"class A { void g(A a) { } } class B extends A { @1void g(A b) { } void h() { new A().g(@2null); } }", "a0 b0: Flows null2 - a0, Below method1 a0 b0, 3"},
		{"class A { A g() { return this; } } class B extends A { @1A g() { return @2null; } } class C extends B { @3A g() { return this; } }", "A.g0 B.g0: Below method1 B.g0 A.g0, Flows null2 - B.g0, 3"},
		{"class A { void g(A[] a) { } } class B extends A { @1void g(A[] b) { b[0] = @2null; } }", "a0 b0: Differ method1 b0 a0, Flows null2 - b0, 3"},
		{"class A { A f; A s; @1init(A p) { this.s = @2p; new A(@3null); new A(@4this); } }", "f0 s0 p0: Unborn this4 - f0, Unborn init1 - f0, Flows var2 p0 s0, Flows null3 - p0, 3"},
		{"class A { A f; @1init() { print(@2this.f.n); } int n; }", "f0 !get2: Unborn get2 - f0, Unborn init1 - f0, 2"},
	})
}

// P22.2: what is asked tells of a local, if that is wanted.
func TestAsks(t *testing.T) {
	text := "class A { int n; A g(A a) { print(@1a.n); print(@2a.n); this.g(@3null); return @4a; } }"
	rows(t, false, []row{{text, "a0 A.g0 !var1 !var2: Flows null3 - a0, Flows var4 a0 A.g0, 3"}})
	rows(t, true, []row{{text, "a0 !var1: Flows null3 - a0, 2"}})
}

// P22.3: guards are told each once, rising, wherever the bodies and the values stand.
func TestGuards(t *testing.T) {
	rows(t, false, []row{
		{"class B { B h(B b, B c) { return @1b.h(@2b.f, @3b.f.h(null, null)); } B f; B i() { @4this.f.h(@5this.i(), this); return this; } } class A extends B { B i() { @6this.f.f.i(); return null; } }", "b0 c0 f0 B.i0 A.i0 !var1 !var2 !var3 !get3 !get4 !get6 !get6: Flows null - b0, Flows null - c0, Unborn class - f0, Below method A.i0 B.i0, Flows null - A.i0, 3"},
	})
}

// P22.4: a mark that is found late may come from near: then the way is shorter than there were rounds.
func TestLate(t *testing.T) {
	text := "class A { void g(A p, A x, A y) { A a = x; a = @1null; a = x; y = @2a; x = @3p; this.g(@4null, x, y); } }"
	rows(t, true, []row{{text, "p0 x0 y0 a0: Flows null4 - p0, Flows var3 p0 x0, Flows var2 a0 y0, Flows null1 - a0, 4"}})
	clean, marks := labels(main + text)
	x := known(t, clean)
	r, f := Solve(x, true)
	if r == nil {
		t.Fatal(f)
	}
	a, y := place(x, marks, "a0"), place(x, marks, "y0")
	path := r.Path(y)
	if len(path) != 2 || path[0].To != a || path[0].From != strict.Nowhere() || path[0].Why != strict.Flows || x.Node(path[0].At).Kind != api.NullLit || path[1].From != a || path[1].To != y || marks[x.Node(path[1].At).From] != "2" {
		t.Errorf("%v", path)
	}
}

// P22.2, P22.4: what is told twice of one node is one step.
func TestOnce(t *testing.T) {
	rows(t, false, []row{{"class A { init() { this.v(); } void v() { } } class B extends A { B f; @1init() { super(); } }", "f0: Unborn init1 - f0, 2"}})
}

// P22.2: of a program that has marks already, those stay, and are where null comes from; then no way leads from null itself.
func TestStrict(t *testing.T) {
	rows(t, false, []row{
		{"class A { A? f; A g() { return this.f!; } void h(A?[]? a, Option<A> o) { A?[] b = a!; if (o is some) { b[0] = o.val; } } }", ": 1"},
		{"class A { A? f; A g() { return @1this.f; } void h() { @2this.g().h(); } }", "A.g0 !call2: Flows get1 f0 A.g0, 2"},
		{"class A { void g(A?[]? a, A[] b) { b = @1a; } }", "b0 b1: Differ var1 a0 b0, Flows var1 a1 b1, 2"},
		{"class A { void g(A[] a, A?[] b) { b = @1a; } }", "a0: Differ var1 b0 a0, 2"},
		{"class A { Option<A[]> o; void g(A?[] a) { this.o = @1some(a); } }", "o0: Differ some1 a0 o0, 2"},
		{"class A { void g(A? a, A b) { b = @1a; b = @2null; A c = @3b; } }", "b0 c0: Flows null2 - b0, Flows var1 a0 b0, Flows var3 b0 c0, 3"},
	})
	clean, marks := labels(main + "class A { A? f; A g() { return @1this.f; } A h() { return this.g(); } }")
	x := known(t, clean)
	r, f := Solve(x, false)
	if r == nil || len(r.Marked()) != 2 || len(r.Steps()) != 2 {
		t.Fatal(f)
	}
	for _, name := range []string{"f0", "A.g0", "A.h0", "nobody"} {
		if path := r.Path(place(x, marks, name)); len(path) != 0 {
			t.Errorf("%s: %v", name, path)
		}
	}
}

// P22.2: places that are shut let nothing flow in but null itself; else they are as others.
func TestShut(t *testing.T) {
	for _, x := range []struct {
		text, shut, want string
	}{
		{"class A { void g(A a) { this.g(@1ask(a)); @2a.g(a); } }", "a0", "Xask1: 1"},
		{"class A { void g(A a) { this.g(@1ask(a)); this.g(@2null); this.g(@3ask(a)); } }", "a0", "a0: Flows null2 - a0, 2"},
		{"class A { void g(A a, A b) { this.g(@1ask(a), @2ask(b)); } }", "a0", "b0 Xask1: Flows ask2 - b0, 2"},
		{"class A { void g(A a) { A b = @1null; A c = @2b; this.g(@3b); this.g(@4c); } }", "a0", "b0 c0 Xvar3 Xvar4: Flows null1 - b0, Flows var2 b0 c0, 3"},
		{"class A { void g(A a) { this.g(@1cast<A>(@2null)); } }", "a0", "cast10 Xcast1: Flows null2 - cast10, 2"},
		{"class A { A g(A a) { return @1cast<A>(@2ask(a)); } }", "cast10", "Xask2: 1"},
		{"class A { A g(A a) { return @1ask(a); } void h() { A b = @2this.g(this); } }", "A.g0", "Xask1: 1"},
		{"class A { A f; void g() { this.f = @2ask(this); } }", "f0", "f0: Unborn class - f0, 2"},
		{"class A { A f; init(A p) { this.f = @1ask(p); } }", "f0", "Xask1: 1"},
		{"class A { void g() { A[] a = @1new A[2]; a[0] = @2ask(this); } }", "array10", "array10 a0: Empty array1 - array10, Flows ask2 - a0, 2"},
		{"class A { void g(A[] a, A[] b) { a = @1b; b[0] = @2ask(this); } }", "a0", "a0 b0: Differ var1 b0 a0, Flows ask2 - b0, 3"},
		{"class A { void g(A[] a, A[] b) { a = @1b; b[0] = @2ask(this); } }", "b0", "Xask2: 1"},
		{"class A { A g() { return this; } } class B extends A { @1A g() { return @2null; } }", "A.g0", "A.g0 B.g0: Below method1 B.g0 A.g0, Flows null2 - B.g0, 3"},
		{"class A { void g(A[] a, A[] b) { @4b[0] = @1null; b = @2null; a = @3b; } }", "a1", "a0 b0 b1 !var4 Xvar3: Differ var3 b0 a0, Flows null1 - b0, Flows null2 - b1, 3"},
		{"class A { void g(A a) { this.g(@1ask(a)); } }", "nobody", "a0: Flows ask1 - a0, 2"},
		{"class A { void g(A? a) { this.g(ask(a)); } }", "a0", ": 1"},
	} {
		if got := told(t, main+x.text, false, x.shut); got != x.want {
			t.Errorf("%s, %s shut: %s, not %s", x.text, x.shut, got, x.want)
		}
	}
	if got := told(t, main+"class A { void g(A a, A b, A c) { this.g(@1ask(a), @2ask(a), @3ask(a)); } }", true, "c0", "a0", "c0", "nobody"); got != "b0 Xask1 Xask3: Flows ask2 - b0, 2" {
		t.Error(got)
	}
}

// P22.2: options where none may be, and ones of which something is asked: no marks can mend that.
func TestFaults(t *testing.T) {
	rows(t, false, []row{
		{"class A { void g(Option<A> o) { A a = @1o; } }", "errno 130 at 1"},
		{"class A { void g(Option<A> o) { o = @1this; } }", "errno 130 at 1"},
		{"class A { void g(Option<A> o) { o = @1null; } }", "errno 130 at 1"},
		{"class A { void g(Option<A> o) { @1o.g(o); } }", "errno 130 at 1"},
		{"class A { void g(Option<A> o) { print(@1o == o); } }", "errno 130 at 1"},
		{"class A { void g(A a) { print(@1a is some); } }", "errno 130 at 1"},
		{"class A { A g(Option<A> o) { return @1o.val; } }", "errno 200 at 1"},
		{"class A { A g(Option<A> o) { if (o is some) { return o.val; } return @1o.val; } }", "errno 200 at 1"},
		{"class A { A g(A a) { return @1a.val; } }", "errno 130 at 1"},
		{"class A { A g(Option<A> o) { A a = @1o.val; return @2o; } }", "errno 200 at 1"},
		{"class A { A g(Option<A> o) { A a = @1o; return @2o.val; } }", "errno 130 at 1"},
		{"class A { A f; A g(Option<A> o) { this.f = @1null; this.f = @2ask(this); return @3o; } }", "errno 130 at 3"},
		{"class A { void g(A a) { } } class B extends A { @1void g(Option<A> o) { } }", "errno 130 at 1"},
	})
	for _, shut := range []string{"a0", "o0"} {
		if got := told(t, main+"class A { void g(Option<A> o, A a) { a = @1o; } }", false, shut); got != "errno 130 at 1" {
			t.Error(got)
		}
	}
}

// P22.2 to P22.4: the chapter's example.
func TestExample(t *testing.T) {
	const text = "@3class Main { Main m; int main() { Main a = @1this.m; return @2a.main(); } }"
	if got := told(t, text, false); got != "m0 a0 !var2: Unborn class3 - m0, Flows get1 m0 a0, 3" {
		t.Error(got)
	}
}

// P22.3: the program with the marks, with which nothing is wrong but that something is asked.
func TestInfo(t *testing.T) {
	const text = "class Main { Main m; Main[] l; int main() { Main[] a = this.l; return a[0].main(); } }"
	x := known(t, text)
	r, f := Solve(x, false)
	if r == nil {
		t.Fatal(f)
	}
	want := known(t, "class Main { Main? m; Main[]? l; int main() { Main[]? a = this.l; return a[0].main(); } }")
	if p := r.Info().Tree(); !tree.Same(p, want.Tree()) || len(p.Nodes) != x.Len() {
		t.Errorf("%s", tree.Form(p, p.Root))
	}
	for _, i := range strict.Look(r.Info(), false).Issues() {
		if i.Kind != strict.Asked || !slices.Contains(r.Guards(), i.At) {
			t.Errorf("%v", i)
		}
	}
}
