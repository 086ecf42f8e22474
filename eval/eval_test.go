package eval

import (
	"math"
	"slices"
	"strconv"
	"strings"
	"testing"
	"unsafe"

	"caulker/api"
	"caulker/num"
	"caulker/tree"
)

// classes are those beside Main: of objects that begin with an int, that come from these, and that have no init.
const classes = `class A { int n; A a; int[] l; Option<A> o; init(int k) { this.n = k; } int f(int i) { return this.n + i; } A self() { return this; } A null_() { return null; } void no() { } }
class B extends A { str s; init() { super(40); } int f(int i) { return 100 * i; } }
class C extends B { bool t; }
class D { int n; double d; bool t; str s; D[] l; int f(int i) { return i; } }
`

// Main is a class that prints what it is asked for, with more members, and whose main is made of these statements.
func inMain(members, statements string) string {
	return classes + "class Main { " + members + " int p(int i) { print(i); return i; } A q(int i, A a) { print(i); return a; } int[] r(int i, int[] l) { print(i); return l; } bool b(int i, bool b) { print(i); return b; } int main() { " + statements + " return 0; } }"
}

// ran is how a program runs, with fuel that is enough; the model says the same.
func ran(t *testing.T, text string, in ...int64) api.Run {
	t.Helper()
	return hold(t, known(t, text), in, 100000)
}

// said is what was printed, as a text.
func said(run api.Run) string {
	var list []string
	for _, o := range run.Out {
		switch o.Base {
		case api.Int:
			list = append(list, strconv.FormatInt(o.N, 10))
		case api.Bool:
			list = append(list, strconv.FormatBool(o.N == 1))
		case api.Double:
			list = append(list, strconv.FormatFloat(math.Float64frombits(uint64(o.N)), 'g', -1, 64))
		case api.Str:
			list = append(list, o.S)
		}
	}
	return strings.Join(list, " ")
}

// prints holds statements to what they print.
func prints(t *testing.T, statements, want string, in ...int64) {
	t.Helper()
	run := ran(t, inMain("", statements), in...)
	if run.End != api.Done || said(run) != want {
		t.Errorf("%d %v, %s, not %s, of %s", run.End, run.Why, said(run), want, statements)
	}
}

// ends holds statements to how they end, and to what they print ahead of that.
func ends(t *testing.T, statements string, end int, why api.Errno, want string, in ...int64) {
	t.Helper()
	run := ran(t, inMain("", statements), in...)
	if run.End != end || run.Why != why || run.Result != 0 || said(run) != want {
		t.Errorf("%d %v, %s, not %d %v, %s, of %s", run.End, run.Why, said(run), end, why, want, statements)
	}
}

// The chapter's example.
func TestExample(t *testing.T) {
	run := ran(t, "class Main { int main() { print(input() + 1); return 7; } }", 4)
	if !like(run, api.Run{End: api.Done, Result: 7, Out: []api.Out{{Base: api.Int, N: 5}}, Steps: 7}) {
		t.Errorf("%v", run)
	}
}

// P16.1: how many steps are taken by what.
func TestSteps(t *testing.T) {
	for text, want := range map[string]int{
		"": 0, "{ }": 1, "{ { } { } }": 3, "int x;": 1, "int x = 1;": 2, "int x; x = 2;": 3, "Main m = this;": 2, "print(1);": 2, "print(-1);": 3, "print(1 + 2 * 3);": 6,
		"this.n = 1;": 4, "this.l = new int[2]; this.l[0] = 1;": 5 + 6, "int[] l = new int[2]; l[1] = l[0];": 3 + 4 + 3, "Main m = this; m.n = m.n;": 2 + 3 + 2,
		"if (true) { }": 3, "if (false) { }": 2, "if (true) { } else { }": 3, "if (false) { } else { print(1); }": 5, "if (!true) { } else { { } }": 5,
		"while (false) { }": 2, "while (true) { break; }": 4, "while (true) { break; print(1); }": 4, "int i = 0; while (i < 2) { i = i + 1; }": 2 + 1 + 3*3 + 2*5, "int i = 0; while (i < 2) { i = i + 1; continue; print(1); }": 2 + 1 + 3*3 + 2*6,
		"new D();": 2, "D d = new D();": 2, "new A(1);": 3 + 1 + 4, "new B();": 2 + 3 + 5, "new C();": 2 + 3 + 5, "this.v();": 4, "this.w(1, this);": 5 + 2, "print(this.p(1));": 4 + 5,
		"bool b = false && true;": 3, "bool b = true && false;": 4, "bool b = true || false;": 3, "bool b = false || false;": 4, "bool b = false && 1 / 0 == 1 || true;": 5,
		"print(toint(1.5));": 3, "print(todouble(1));": 3, "Main m = ask(this);": 3, "Main m = this!;": 3, "Option<Main> o = some(this);": 3, "Option<Main> o = none;": 2, "Main m = null;": 2, "Main m = cast<Main>(this);": 3, "print(input());": 2, `str s = "a" + "b";`: 4, "this.l = new int[0]; print(this.k().length);": 5 + 4 + 4,
		"Option<Main> o = some(this); bool b = o is some;": 3 + 3, "Option<Main> o = some(this); bool b = o is none;": 3 + 3, "Option<Main> o = some(this); Main m = o.val;": 3 + 3, "bool b = this == null;": 4, "int[][] l = new int[][2]; l[0] = new int[1]; l[0][0] = 1;": 3 + 6 + 7, "print((new int[3])[1]);": 5, "print((1));": 2,
	} {
		run := ran(t, inMain("int n; int[] l; void v() { } void w(int a, Main b) { return; } int[] k() { return this.l; }", text))
		if run.End != api.Done || run.Steps != want+3 {
			t.Errorf("%d: %d steps, not %d, of %s", run.End, run.Steps, want+3, text)
		}
	}
}

// P16.1: with less fuel than it needs a run is out of fuel, once that is gone, and has printed what it prints by then; with as much it ends.
func TestFuel(t *testing.T) {
	for _, text := range []string{
		"class Main { int main() { return 1; } }", "class Main { init() { print(1); } int main() { print(2); return 1; } }",
		inMain("", "int i = 0; while (i < 5) { print(i); i = i + 1; if (i == 3) { new B(); } }"), inMain("", "A a = new A(2); a.a = a; print(a.a.a.f(this.p(3)));"), inMain("", "print(1); A a = null; a.n = 3;"), inMain("", "print(1 / input());"), inMain("A a;", "print(1); print(this.a!.n);"),
	} {
		x := known(t, text)
		whole := hold(t, x, nil, math.MaxInt)
		for fuel := range whole.Steps {
			run := hold(t, x, nil, fuel)
			if run.End != api.OutOfFuel || run.Steps != fuel || run.Result != 0 || run.Why != api.OK || !slices.Equal(run.Out, whole.Out[:len(run.Out)]) {
				t.Errorf("%v, with %d, of %s", run, fuel, text)
			}
		}
		for _, fuel := range []int{0, -1, math.MinInt} {
			if run := hold(t, x, nil, fuel); !like(run, api.Run{End: api.OutOfFuel}) {
				t.Errorf("%v, with %d, of %s", run, fuel, text)
			}
		}
		if run := Run(x, nil, whole.Steps); !like(run, whole) {
			t.Errorf("%v, of %s", run, text)
		}
	}
	x := known(t, "class Main { int main() { while (true) { } return 1; } }")
	if run := Run(x, nil, 3000001); !like(run, api.Run{End: api.OutOfFuel, Steps: 3000001}) {
		t.Errorf("%v", run)
	}
}

// P16.1: Main's object is made, and begins, ahead of its main, which may be an ancestor's.
func TestMain(t *testing.T) {
	for text, want := range map[string]string{
		"class Main { int n; init() { this.n = 3; print(1); } int main() { print(this.n); return this.n; } }":                                                                                        "1 3",
		"class Main extends A { init() { super(5); print(2); } int n() { return 7; } } class A { int k; init(int k) { print(k); } int main() { print(this.n()); return 3; } int n() { return 6; } }": "5 2 7",
		"class A extends Main { init() { print(9); } int main() { print(8); return 8; } } class Main { int n; int main() { print(this.n); return 3; } }":                                             "0",
		"class Main extends A { int main() { return 3; } } class A { init() { print(4); } int main() { return 4; } }":                                                                                "4",
		"class Main { init() { return; print(1); } int main() { return 3; } }":                                                                                                                       "",
	} {
		if run := ran(t, text); run.End != api.Done || run.Result != 3 || said(run) != want {
			t.Errorf("%v, not %s, of %s", run, want, text)
		}
	}
	for _, n := range []string{"0", "-1", "9223372036854775807", "-9223372036854775807 - 1"} {
		run := ran(t, "class Main { int main() { return "+n+"; } }")
		if want, _ := strconv.ParseInt(strings.Replace(n, "7 - 1", "8", 1), 10, 64); run.Result != want || run.End != api.Done {
			t.Errorf("%v of %s", run, n)
		}
	}
}

// P16.2: a call is that of the object's class; its parameters have the arguments' values, and are its own.
func TestCalls(t *testing.T) {
	prints(t, "A a = new A(3); print(a.f(2)); a = new B(); print(a.f(2)); a = new C(); print(a.f(2)); print(a.n); D d = new D(); print(d.f(2));", "5 200 200 40 2")
	prints(t, "print(this.p(this.p(1) + this.p(2)));", "1 2 3 3")
	prints(t, "A a = new C(); print(a.self() == a); print(a.null_() == null); a.no();", "true true")
	run := ran(t, "class Main { int g(int a, int b) { a = a + 1; int c = a; b = c; if (b < 5) { print(this.g(b, a)); } print(a); print(b); print(c); return a + b; } int main() { int a = 3; print(this.g(a, 1)); print(a); return a; } }")
	if said(run) != "5 5 5 10 4 4 4 8 3" || run.Result != 3 {
		t.Errorf("%s", said(run))
	}
	run = ran(t, "class A { int n; init(int n, int m) { this.n = n - m; } } class B extends A { init(int n) { super(n, 1); this.n = this.n * 10; } } class C extends B { int n() { return this.n; } } class Main { int main() { print(new A(5, 3).n); print(new B(5).n); print(new C(6).n()); return 0; } }")
	if said(run) != "2 40 50" {
		t.Errorf("%s", said(run))
	}
	run = ran(t, "class A { init() { print(1); this.show(); } void show() { print(2); } } class B extends A { init() { super(); print(3); this.show(); } void show() { print(4); } } class C extends B { int n; init() { super(); print(this.n); this.n = 5; } void show() { print(this.n + 6); } } class Main { int main() { new C(); return 0; } }")
	if said(run) != "1 6 3 6 0" {
		t.Errorf("%s", said(run))
	}
}

// P16.2: Super is that of the class that its init stands in, whatever the object's class; an ancestor without an init is passed over.
func TestSuper(t *testing.T) {
	run := ran(t, "class Main extends F { init() { super(1); print(this.n); } } class F extends E { } class E extends D { init(int a) { super(a, a + 1); print(this.n); } } class D extends C { } class C { int n; init(int a, int b) { this.n = a + b; print(a); print(b); } int main() { return this.n; } }")
	if said(run) != "1 2 3 3" || run.Result != 3 {
		t.Errorf("%s", said(run))
	}
}

// P16.2: fields are Empty at first, in each object for itself.
func TestFields(t *testing.T) {
	prints(t, "D d = new D(); print(d.n); print(d.d); print(d.t); print(d.s); print(d.l == null); D e = new D(); e.n = 5; print(d.n); print(e.n); d.s = \"x\"; d.d = 2.5; d.t = true; d.l = new D[1]; d.l[0] = d; print(d.l[0].s); print(d.d); print(d.t); print(e.s + \"!\");", "0 0 false  true 0 5 x 2.5 true !")
	prints(t, "A a = new A(1); print(a.a == null); Option<A> o = a.o; print(o is none); print(o is some); A b = new C(); b.n = 2; C c = cast<C>(b); c.t = true; c.s = \"s\"; print(b.n); print(c.n); print(c.t); print(c.s);", "true true false 2 2 true s")
}

// P16.2: at most so many calls are under way, one in the other, those of inits and of main among them; what is there ahead of the call is reckoned.
func TestDeep(t *testing.T) {
	deep := "class R { R r; int n; init(int n) { this.n = n; if (n > 0) { this.r = new R(n - 1); } } } class S extends R { init(int n) { super(n); } } class E { int k; } class Main { int full; int f(int n, int k) { if (n > 1) { return this.f(n - 1, k); } if (k == 1) { return this.leaf(this.p(1)); } if (k == 2) { new E(); } if (k == 3) { new R(0); } if (k == 4) { new S(0); } if (k == 5) { E e = null; print(e.k); } if (k == 6) { Main m = null; return m.leaf(1); } if (k == 7) { return this.leaf(1 / 0); } return n; } int p(int i) { return i; } int leaf(int i) { return i; } int main() { return this.f(input(), input()); } }"
	for _, x := range []struct {
		n, k int64
		end  int
		why  api.Errno
	}{
		{99, 0, api.Done, 0}, {100, 0, api.OtherFault, api.ErrDeep}, {98, 1, api.Done, 0}, {99, 1, api.OtherFault, api.ErrDeep}, {99, 2, api.Done, 0}, {98, 3, api.Done, 0}, {99, 3, api.OtherFault, api.ErrDeep},
		{97, 4, api.Done, 0}, {98, 4, api.OtherFault, api.ErrDeep}, {99, 4, api.OtherFault, api.ErrDeep}, {99, 5, api.NullFault, 0}, {99, 6, api.NullFault, 0}, {99, 7, api.OtherFault, api.ErrRange}, {98, 7, api.OtherFault, api.ErrRange},
	} {
		if run := ran(t, deep, x.n, x.k); run.End != x.end || run.Why != x.why || run.Result != map[int]int64{api.Done: 1}[x.end] {
			t.Errorf("%v: %v", x, run)
		}
	}
	inits := "class Main { int n; init() { int n = input(); this.n = n; if (n > 1) { new R(n - 1); } } int main() { return 3; } } class R { init(int n) { if (n > 1) { new R(n - 1); } } }"
	for n, end := range map[int64]int{1: api.Done, 100: api.Done, 101: api.OtherFault, 1000: api.OtherFault} {
		if run := ran(t, inits, n); run.End != end {
			t.Errorf("%d: %v", n, run)
		}
	}
	many := "class Main { int f(int n) { if (n > 0) { return this.f(n - 1); } return 1; } int main() { int i = 0; while (i < 300) { this.f(98); i = i + 1; } return this.f(98); } }"
	if run := hold(t, known(t, many), nil, 1<<20); run.End != api.Done {
		t.Errorf("calls one behind the other: %v", run.End)
	}
}

// P16.2: at most so many things are printed; the value of one more is reckoned.
func TestOut(t *testing.T) {
	loop := "int i = 0; while (i < input()) { i = i + 1; print(i); }"
	in := slices.Repeat([]int64{1024}, 1030)
	run := ran(t, inMain("", loop+" print(1 / 0);"), in...)
	if run.End != api.OtherFault || run.Why != api.ErrRange || len(run.Out) != 1024 || run.Out[1023].N != 1024 {
		t.Errorf("%d %v %d", run.End, run.Why, len(run.Out))
	}
	if run = ran(t, inMain("", loop), in...); run.End != api.Done || len(run.Out) != 1024 {
		t.Errorf("%d %v %d", run.End, run.Why, len(run.Out))
	}
	if run = ran(t, inMain("", loop+" print(true);"), in...); run.End != api.OtherFault || run.Why != api.ErrLong || len(run.Out) != 1024 {
		t.Errorf("%d %v %d", run.End, run.Why, len(run.Out))
	}
}

// P16.2: what is printed is told with its base.
func TestPrinted(t *testing.T) {
	run := ran(t, inMain("", `print(-3); print(true); print(false); print(2.5); print(0.0 / 0.0); print(-0.0); print("a\n"); print(""); print(input());`), 6)
	want := []api.Out{{Base: api.Int, N: -3}, {Base: api.Bool, N: 1}, {Base: api.Bool}, {Base: api.Double, N: int64(math.Float64bits(2.5))}, {Base: api.Double, N: num.NaN}, {Base: api.Double, N: math.MinInt64}, {Base: api.Str, S: "a\n"}, {Base: api.Str}, {Base: api.Int, N: 6}}
	if !slices.Equal(run.Out, want) {
		t.Errorf("%v", run.Out)
	}
}

// P16.3: ifs and whiles, and what leaves them.
func TestWays(t *testing.T) {
	for text, want := range map[string]string{
		"if (true) { print(1); } print(2);": "1 2", "if (false) { print(1); } print(2);": "2", "if (false) { print(1); } else { print(3); } print(2);": "3 2", "if (true) { print(1); } else { print(3); } print(2);": "1 2",
		"int i = 0; while (i < 3) { print(i); i = i + 1; } print(9);": "0 1 2 9", "while (false) { print(1); } print(2);": "2", "while (true) { print(1); break; } print(2);": "1 2",
		"int i = 0; while (i < 4) { i = i + 1; if (i == 2) { continue; } print(i); }": "1 3 4", "int i = 0; while (true) { i = i + 1; if (i == 3) { break; } print(i); } print(i);": "1 2 3",
		"int i = 0; while (i < 2) { i = i + 1; int j = 0; while (true) { j = j + 1; if (j == 2) { { continue; } } if (j > 3) { break; } print(10 * i + j); } print(i); }": "11 13 1 21 23 2",
		"while (true) { while (true) { break; } print(1); break; }": "1", "{ print(1); { print(2); } } print(3);": "1 2 3", "while (true) { if (input() == 0) { print(7); return 1; print(8); } print(6); }": "6 6 7",
		"int i = 0; while (i < 2) { int x; print(x); x = 5; bool t; Option<A> o; print(o is none); o = some(new A(1)); print(t); t = true; i = i + 1; }": "0 true false 0 true false",
		"int i = 0; while (this.b(i, i < 2)) { i = i + 1; }": "0 1 2", "int x = 1; { int y = x; x = 2; { x = x + y; } } print(x);": "3", "str s; print(s); double d; print(d); A a; print(a == null); int[] l; print(l == null);": " 0 true true",
	} {
		prints(t, text, want, 1, 2)
	}
	run := ran(t, inMain("int f(int n) { while (true) { n = n + 1; while (true) { if (n > 4) { return n; } break; } } return 0; } void g() { while (true) { return; } } void h() { print(5); if (input() > 0) { return; } print(6); }", "print(this.f(1)); this.g(); this.h(); this.h();"), 1)
	if said(run) != "5 5 5 6" {
		t.Errorf("%s", said(run))
	}
}

// P16.3: what is assigned: of what it is assigned to first the object or array, then the number, and then the value.
func TestAssign(t *testing.T) {
	prints(t, "int x = 1; x = x + 1; print(x); A a = new A(3); a.n = a.n * 5; print(a.n); int[] l = new int[2]; l[1] = 7; l[0] = l[1] + 1; print(l[0]); print(l[1]); A b = a; b.n = 1; print(a.n);", "2 15 8 7 1")
	prints(t, "this.q(1, new A(1)).n = this.p(2); this.r(3, new int[1])[this.p(0)] = this.p(4);", "1 2 3 0 4")
	prints(t, "int[] l = new int[2]; int i = 0; l[i] = i + 5; int[] k = l; l = new int[1]; k[1] = 3; print(k[0] + k[1]); print(l[0]);", "8 0")
	ends(t, "this.q(1, null).n = this.p(2);", api.NullFault, 0, "1")
	ends(t, "A a = new A(1); a.a.n = this.p(2);", api.NullFault, 0, "")
	ends(t, "this.r(1, null)[this.p(5)] = this.p(2);", api.NullFault, 0, "1")
	ends(t, "this.r(1, new int[5])[this.p(5)] = this.p(2);", api.OtherFault, api.ErrRange, "1 5 2")
	ends(t, "this.r(1, new int[5])[this.p(-1)] = this.p(2);", api.OtherFault, api.ErrRange, "1 -1 2")
	ends(t, "this.r(1, new int[5])[this.p(5)] = 1 / 0;", api.OtherFault, api.ErrRange, "1 5")
	ends(t, "this.r(1, new int[5])[this.p(9)] = this.q(2, null).n;", api.NullFault, 0, "1 9 2")
	ends(t, "Option<A> o = some(new A(1)); o.n = this.p(1);", api.NullFault, 0, "")
	ends(t, "Option<int[]> o = some(new int[1]); o[this.p(0)] = 1;", api.NullFault, 0, "")
	ends(t, "Option<A> o = none; o.n = 1;", api.NullFault, 0, "")
}

// P16.4: values are reckoned from the left on, and what is null ends the run at once.
func TestOrder(t *testing.T) {
	prints(t, "print(this.p(1) + this.p(2) * this.p(3)); print(this.p(4) < this.p(5)); print(this.q(6, null) == this.q(7, null));", "1 2 3 7 4 5 true 6 7 true")
	prints(t, "this.q(1, new A(1)).f(this.p(2)); this.r(3, new int[this.p(4)])[this.p(0)] = 1; print(this.r(5, new int[3])[this.p(2)]); print(this.r(6, new int[3]).length);", "1 2 4 3 0 5 2 0 6 3")
	ends(t, "print(this.p(1) + this.q(2, null).f(this.p(3)) + this.p(4));", api.NullFault, 0, "1 2")
	ends(t, "print(this.q(1, null).n);", api.NullFault, 0, "1")
	ends(t, "print(this.r(1, null)[this.p(2)]);", api.NullFault, 0, "1")
	ends(t, "print(this.r(1, null).length);", api.NullFault, 0, "1")
	ends(t, "print(this.r(1, new int[2])[this.p(2)]);", api.OtherFault, api.ErrRange, "1 2")
	ends(t, "print(this.r(1, new int[2])[this.p(-1)]);", api.OtherFault, api.ErrRange, "1 -1")
	ends(t, "print(new int[0][0]);", api.OtherFault, api.ErrRange, "")
	for _, text := range []string{"print(o.n);", "o.no();", "print(o.f(1 / 0));", "print(o.self().n);"} {
		ends(t, "Option<A> o = some(new A(1)); "+text, api.NullFault, 0, "")
		ends(t, "Option<A> o = none; "+text, api.NullFault, 0, "")
	}
	ends(t, "Option<int[]> o = some(new int[2]); print(o.length);", api.NullFault, 0, "")
	ends(t, "Option<int[]> o = none; print(o[1 / 0]);", api.NullFault, 0, "")
}

// P16.4: the second value of && and || is reckoned only if the first one doesn't tell.
func TestAndOr(t *testing.T) {
	prints(t, "print(this.b(1, false) && this.b(2, true)); print(this.b(3, true) && this.b(4, false)); print(this.b(5, true) && this.b(6, true));", "1 false 3 4 false 5 6 true")
	prints(t, "print(this.b(1, true) || this.b(2, false)); print(this.b(3, false) || this.b(4, true)); print(this.b(5, false) || this.b(6, false));", "1 true 3 4 true 5 6 false")
	prints(t, "A a = null; print(a != null && a.n > 0); print(a == null || a.n > 0); if (a == null && 1 < 2 || 1 / 0 > 1) { print(3); }", "false true 3")
}

// P16.4: whole numbers, doubles, texts and truths.
func TestSigns(t *testing.T) {
	prints(t, "print(7 / 2); print(-7 / 2); print(-7 % 2); print(7 % -2); print(9223372036854775807 + 1); print(-9223372036854775807 - 2); print(3 * -4); print(-(0 - 9223372036854775807 - 1));", "3 -3 -1 1 -9223372036854775808 9223372036854775807 -12 -9223372036854775808")
	prints(t, "print(1 < 2); print(2 < 2); print(2 <= 2); print(3 <= 2); print(2 > 2); print(3 > 2); print(2 >= 2); print(1 >= 2); print(1 == 1); print(1 == 2); print(1 != 1); print(1 != 2);", "true false true false false true true false true false false true")
	prints(t, "print(1.5 + 2.0); print(1.0 - 2.5); print(1.5 * 4.0); print(1.0 / 4.0); print(1.0 / 0.0); print(-1.0 / 0.0); print(-(0.5)); print(-0.0 == 0.0); print(1.0 / -0.0);", "3.5 -1.5 6 0.25 +Inf -Inf -0.5 true -Inf")
	nan := "double x = 0.0 / 0.0; "
	prints(t, nan+"print(x == x); print(x != x); print(x < x); print(x <= x); print(x > x); print(x >= x); print(x < 1.0); print(x > 1.0); print(toint(x)); print(-x != -x);", "false true false false false false false false 0 true")
	prints(t, "print(1.5 < 2.5); print(1.5 <= 1.5); print(1.5 > 2.5); print(1.5 >= 2.5); print(1.5 == 1.5); print(1.5 != 1.5);", "true true false false true false")
	prints(t, "print(toint(-2.75)); print(toint(1.0 / 0.0)); print(toint(-1.0 / 0.0)); print(todouble(3) / 2.0); print(todouble(9007199254740993) == todouble(9007199254740992)); print(!true); print(!(1 > 2)); print(true == false); print(true != false); print(false == false);", "-2 9223372036854775807 -9223372036854775808 1.5 true false true false true true")
	prints(t, `print("a" + "b" + ""); print("a" == "a"); print("a" == "b"); print("a" != "b"); str s = "x"; s = s + s; print(s == "xx"); print(s + "\n" == "xx\n");`, "ab true false true true true")
	ends(t, "print(1); print(1 / (1 - 1));", api.OtherFault, api.ErrRange, "1")
	ends(t, "print(1 % 0);", api.OtherFault, api.ErrRange, "")
	prints(t, "print(0 / 5 + 0 % 5); print((0 - 9223372036854775807 - 1) / -1); print((0 - 9223372036854775807 - 1) % -1);", "0 -9223372036854775808 0")
}

// P16.4: objects and arrays are the same if they are that one; null is the same as null alone.
func TestIdentity(t *testing.T) {
	prints(t, "A a = new A(1); A b = new A(1); A c = a; B d = new B(); A e = d; print(a == b); print(a == c); print(a != b); print(a != c); print(d == e); print(e == d); print(a == null); print(null == a); print(null == null); A f; print(f == null); print(f == a); print(null != f);", "false true true false true true false false true true false false")
	prints(t, "int[] a = new int[0]; int[] b = new int[0]; print(a == b); print(a == a); print(a != null); b = null; print(b == null); print(null == null);", "false true true true true")
	prints(t, "int[] a = new int[1]; Option<int[]> o = some(a); print(a == o); print(a != o); print(o == o); o = none; print(null == o); a = null; print(a == o); double[] d = new double[1]; Option<double[]> e = some(d); print(d == e); print(d == d);", "false true true false false false true")
	prints(t, "A a = new A(1); Option<A> o = some(a); Option<A> p = some(a); Option<A> q = none; Option<A> r = null; print(o == p); print(o == a); print(q == null); print(q == q); print(q != o); print(r == null); print(r == q); p = a; print(p == a);", "true false false true true true false true")
}

// P16.4: texts and arrays that are too long, arrays that are too short, and too many objects.
func TestLong(t *testing.T) {
	grow := `str s = "x"; int i = 0; while (i < 10) { s = s + s; i = i + 1; } str e = ""; s = s + e; s = e + s; print(1); `
	ends(t, grow+`s = s + "x";`, api.OtherFault, api.ErrLong, "1")
	ends(t, grow+`print("x" + s);`, api.OtherFault, api.ErrLong, "1")
	run := ran(t, inMain("", grow+"print(s);"))
	if run.End != api.Done || len(run.Out) != 2 || run.Out[1].S != strings.Repeat("x", 1024) {
		t.Errorf("%v", run.End)
	}
	prints(t, "int[] l = new int[65536]; print(l.length); print(l[65535]); int[][] k = new int[][0]; print(k.length);", "65536 0 0")
	ends(t, "int[] l = new int[65537];", api.OtherFault, api.ErrLong, "")
	ends(t, "int[] l = new int[65535]; print(1); new A(1);", api.OtherFault, api.ErrLong, "1")
	ends(t, "int[] l = new int[-1];", api.OtherFault, api.ErrRange, "")
	ends(t, "int[] l = new int[9223372036854775807];", api.OtherFault, api.ErrLong, "")
	ends(t, "int[] l = new int[this.p(5) / 0];", api.OtherFault, api.ErrRange, "5")
	many := "class E { init() { } } class F { init() { print(9); } } class Main { int f(int n) { if (n > 0) { return this.f(n - 1); } new F(); return n; } int main() { int i = input(); while (i > 0) { i = i - 1; new E(); } return this.f(input()); } }"
	for _, x := range []struct {
		objects, deep int64
		end           int
		why           api.Errno
	}{{4094, 0, api.Done, 0}, {4095, 0, api.OtherFault, api.ErrLong}, {5000, 0, api.OtherFault, api.ErrLong}, {4094, 97, api.Done, 0}, {4094, 98, api.OtherFault, api.ErrDeep}, {4095, 98, api.OtherFault, api.ErrLong}} {
		if run := ran(t, many, x.objects, x.deep); run.End != x.end || run.Why != x.why {
			t.Errorf("%v: %v", x, run)
		}
	}
}

// P16.4: casts look at the class of objects alone.
func TestCast(t *testing.T) {
	prints(t, "A a = new C(); B b = cast<B>(a); C c = cast<C>(b); print(c == a); A d = cast<A>(c); print(d == c); A n = null; print(cast<C>(n) == null); print(cast<B>(null) == null); int[] l = cast<int[]>(new int[2]); print(l.length); A[] k = cast<A[]>(new A[1]); print(k.length);", "true true true true 2 1")
	prints(t, "Option<A> o = some(new A(1)); Option<B> b = cast<Option<B>>(o); print(b is some); print(b.val == o.val); o = none; print(cast<C>(o) == null);", "true true false")
	ends(t, "A a = new A(1); print(1); B b = cast<B>(a);", api.OtherFault, api.ErrKind, "1")
	ends(t, "A a = new B(); print(1); A b = cast<C>(a);", api.OtherFault, api.ErrKind, "1")
	ends(t, "Option<A> o = some(new A(1)); B b = cast<B>(o.val);", api.OtherFault, api.ErrKind, "")
	ends(t, "A[] l = new A[1]; l[0] = new A(2); B b = cast<B>(l[0]);", api.OtherFault, api.ErrKind, "")
}

// P16.4: what is read, by Input and Ask alike, each number once.
func TestRead(t *testing.T) {
	prints(t, "print(input()); print(input()); print(input() - input()); print(input()); print(input());", "5 -6 -1 0 0", 5, -6, 7, 8)
	prints(t, "A a = new A(1); print(ask(a) == a); print(ask(a) == null); print(ask(a) == a); print(input()); print(ask(ask(a)) == null); print(ask(a) == null); A n = null; print(ask(n) == null);", "true true true 3 true true true", 1, 0, -9, 3, 0, 1)
	ends(t, "print(1); print(ask(this.q(2, new A(1))).n + this.p(4));", api.NullFault, 0, "1 2", 0, 1)
	prints(t, "print(ask(this.q(input(), new A(1))).n);", "6 1", 6, 1)
	prints(t, "int[] l = ask(new int[2]); print(l.length); Option<A> o = some(new A(3)); print(ask(o) == o);", "2 true", 1, 1)
	in := []int64{1, 2, 3, 4}
	x := known(t, inMain("", "print(input() + input());"))
	for range 2 {
		if run := Run(x, in[:3], 100); said(run) != "3" || !slices.Equal(in, []int64{1, 2, 3, 4}) {
			t.Errorf("%v %v", run, in)
		}
	}
}

// P16.5: guards and options.
func TestGuards(t *testing.T) {
	prints(t, "A a = new A(3); print(a! == a); print(a!!.self()!.n); int[] l = new int[2]; print(l!.length);", "true 3 2")
	ends(t, "A a = null; print(1); print(a!.f(this.p(2)));", api.GuardFault, 0, "1")
	ends(t, "A a = this.q(1, null)!; print(2);", api.GuardFault, 0, "1")
	ends(t, "Option<A> o = some(new A(1)); A a = o!;", api.GuardFault, 0, "")
	ends(t, "Option<A> o = none; A a = o!;", api.GuardFault, 0, "")
	ends(t, "Option<A> o = null; A a = o!;", api.GuardFault, 0, "")
	prints(t, "Option<A> o = new A(4); A a = o!; print(a.n);", "4")
	ends(t, "int[] l = null; print(l![1 / 0]);", api.GuardFault, 0, "")

	prints(t, "A a = new A(5); Option<A> o = some(a); print(o is some); print(o is none); print(o.val == a); print(o.val.n); o = none; print(o is some); print(o is none);", "true false true 5 false true")
	prints(t, "A n = null; Option<A> o = some(n); print(o is some); print(o is none); print(o == null); Option<A> p = none; Option<A> q = some(p); print(q is none); print(q == p); p = some(new A(1)); print(some(p) == p);", "false true true true true true")
	prints(t, "Option<A> o = null; print(o is some); print(o is none); o = new A(2); print(o is some); print(o is none);", "false true false true")
	prints(t, "Option<int[]> o = some(new int[3]); print(o.val.length); o.val[1] = 4; print(o.val[1]); Option<A?[]> p = none; print(p is none);", "3 4 true")
	for _, first := range []string{"none", "null", "some(this.q(7, null))", "new A(1)"} {
		out := map[bool]string{true: "7"}[strings.HasPrefix(first, "some")]
		ends(t, "Option<A> o = "+first+"; A a = o.val; print(1);", api.NullFault, 0, out)
	}
}

// P16.6: marks, but an option's, change nothing, and guards only whether a run ends by one.
func TestMarks(t *testing.T) {
	members := "A@ a; int[]@ l; A@[]@ k; A@ g(A@ a, int[]@ l) { A@ x = a; if (x == null) { x = this.a; } return x!; } "
	text := inMain(members, "A@ y = ask(this.g(null, null)); this.k = new A@[2]; this.k[0] = y; A@[]@ z = this.k; print(z[0]!.n); print(z[input()]!.n); print(cast<A@>(y).n);")
	init := " init() { this.a = new A(6); this.l = null; } "
	text = strings.Replace(text, "class Main {", "class Main {"+init, 1)
	for _, in := range [][]int64{nil, {1}, {1, 1}, {1, 2}, {1, 0}, {0, 0}} {
		plain, marked := strings.ReplaceAll(text, "@", ""), strings.ReplaceAll(text, "@", "?")
		a, b := ran(t, plain, in...), ran(t, marked, in...)
		if !like(a, b) {
			t.Errorf("%v: %v and %v", in, a, b)
		}
		bare := ran(t, strings.ReplaceAll(plain, "!.", "."), in...)
		if a.End == api.GuardFault && bare.End != api.NullFault || a.End != api.GuardFault && (bare.End != a.End || bare.Result != a.Result) || !slices.Equal(bare.Out, a.Out) {
			t.Errorf("%v: %v and %v", in, a, bare)
		}
	}
}

// P2: the program and the numbers stay as they are, and each run stands for itself, in memory of its own.
func TestAlone(t *testing.T) {
	x := known(t, inMain("", `str s = "text"; print(s); print(s); print(input()); print(new A(2).n);`))
	was := tree.Form(x.Tree(), x.Tree().Root)
	in := []int64{4, 5}
	one, other := Run(x, in[:1], 100), Run(x, in[:1], 100)
	if !like(one, other) || said(one) != "text text 4 2" || tree.Form(x.Tree(), x.Tree().Root) != was || in[1] != 5 {
		t.Errorf("%v %v", one, other)
	}
	for _, pair := range [][2]string{{one.Out[0].S, other.Out[0].S}, {one.Out[0].S, one.Out[1].S}} {
		if unsafe.StringData(pair[0]) == unsafe.StringData(pair[1]) {
			t.Error("two answers share a text")
		}
	}
	spare := one.Out[:cap(one.Out)]
	clear(spare)
	if said(other) != "text text 4 2" || said(Run(x, in, 100)) != "text text 4 2" {
		t.Error("a run hangs on another one's answer")
	}
}
