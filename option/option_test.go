package option

import (
	"slices"
	"strings"
	"testing"

	"caulker/api"
	"caulker/base"
	"caulker/lex"
	"caulker/parse"
	"caulker/plan"
	"caulker/strict"
	"caulker/tree"
)

// main is what each program has.
const main = "class Main { int main() { return 1; } } "

// in is a program with a block in a method f of A, whose parameters are p and q.
func in(block string) string {
	return main + "class A { int n; A? f; A s; init() { this.s = new B(); } A? g(A? a) { return a; } A h(A? a) { return this; } bool k(A? a, bool b) { return b; } void f(A p, A? q, Option<A> o, A?[] l) { " + block + " } } class B extends A { }"
}

// fits is a text's program.
func fits(t *testing.T, text string) *base.Info {
	t.Helper()
	x, f := strict.Fits(text)
	if x == nil {
		t.Fatalf("%v, at %s", f, text[f.At:])
	}
	return x
}

// body is the number of the body of that method f.
func body(t *testing.T, x *base.Info) int {
	t.Helper()
	for number, b := range x.Bodies() {
		if x.Node(b.Node).Text == "f" {
			return number
		}
	}
	t.Fatal("there is no f")
	return -1
}

// names are the names of that body's locals that are Closed, as the three functions tell and the model does.
func names(t *testing.T, x *base.Info) string {
	t.Helper()
	f := body(t, x)
	var list []string
	for _, slot := range hold(t, x, f) {
		list = append(list, x.Bodies()[f].Scope.Locals()[slot].Name)
	}
	return strings.Join(list, " ")
}

// P25.1: which locals are Closed: by their declarations.
func TestDeclared(t *testing.T) {
	for block, want := range map[string]string{
		"A? a = null;":                            "a",
		"A a = p;":                                "",
		"A? a; a = null;":                         "", // no value
		"A? a;":                                   "",
		"Option<A> a = none;":                     "",
		"Option<A> a = some(p);":                  "",
		"A?[] a = l;":                             "", // a mark, but not its last one
		"A?[]? a = null;":                         "a",
		"A[]? a = null; A[][]?[]? b = null;":      "a b",
		"int[]? a = null;":                        "a",
		"int a = 1; bool b = true; A? c = null;":  "c",
		"Option<A?[]> a = none; A? b = null;":     "b",
		"if (q != null) { q.n = 1; q = p; }":      "", // a parameter
		"A? a = null; { A? b = null; } A? c = p;": "a b c",
		"while (true) { A? a = null; }":           "a",
	} {
		if got := names(t, fits(t, in(block))); got != want {
			t.Errorf("%s: %s, not %s", block, got, want)
		}
	}
}

// P25.1: which locals are Closed: by the values that they get.
func TestValues(t *testing.T) {
	for block, want := range map[string]string{
		"A? a = this;":    "a",
		"A? a = new A();": "a",
		"A? a = new B(); a = null; a = p; a = (null); a = ((p));": "a",
		"A? a = this.s;":               "a",
		"A? a = this.f;":               "",
		"A? a = this.h(null);":         "a",
		"A? a = this.g(null);":         "",
		"A? a = l[0];":                 "",
		"A?[]? a = l;":                 "a",
		"A?[]? a = new A?[2];":         "a",
		"A? a = cast<A>(p);":           "a",
		"A? a = cast<A?>(p);":          "",
		"A? a = cast<A?>(null);":       "", // not null itself
		"A? a = ask(p);":               "",
		"A? a = null; a = ask(this);":  "",
		"A? a = this.f!;":              "a",
		"A? a = q!;":                   "a",
		"A? a = q;":                    "",
		"if (q != null) { A? a = q; }": "a",
		"if (q != null) { A? a = null; q = this.f; a = q; }":  "",
		"A? a = null; if (q == null) { a = q; }":              "",
		"q.n = 1; A? a = q;":                                  "", // what is asked of it tells nothing
		"q = p; A? a = q;":                                    "a",
		"q = p; A? a = ((q));":                                "a",
		"A? a = null; return; a = q;":                         "a", // no way leads there
		"A? a = null; return; a = this.f;":                    "",
		"A? a = p; a = a;":                                    "", // no other local
		"A? a = p; a = a.s;":                                  "a",
		"A? a = p; a = a.f;":                                  "",
		"A? a = p; A? b = a;":                                 "a b",
		"A? a = null; A? b = a;":                              "", // a is named where it may be null, and b gets that
		"A? a = null; A? b = null; if (a != null) { b = a; }": "a b",
		"A? a = null; if (a == null) { a = this.f; }":         "",
		"if (o is some) { A? a = o.val; }":                    "a",
		"A? a = none;":                                        "", // options
		"A? a = some(p);":                                     "",
		"A? a = o;":                                           "",
		"if (o is some) { A? a = o; }":                        "",
		"o = some(p); A? a = null; a = o;":                    "",
		"A? a = cast<Option<A>>(o);":                          "",
		"A? a = null; Option<A> b = a;":                       "",
		"A? a = p; while (input() > 0) { a = this.f; if (a == null) { } }": "",
		"A? a = null; while (true) { if (a != null) { a = a.f!; } }":       "a",
	} {
		if got := names(t, fits(t, in(block))); got != want {
			t.Errorf("%s: %s, not %s", block, got, want)
		}
	}
}

// P25.1: which locals are Closed: by where they are named.
func TestNamed(t *testing.T) {
	for block, want := range map[string]string{
		"A? a = null; bool b = a == null;":                                             "a",
		"A? a = null; bool b = null != (a);":                                           "a",
		"A? a = null; bool b = a == a;":                                                "",
		"A? a = null; bool b = a == p;":                                                "",
		"A? a = p; bool b = a != p;":                                                   "a",
		"A? a = null; bool b = (a == null) == (null == a);":                            "a",
		"A? a = null; bool b = cast<A>(a) == null;":                                    "",
		"A? a = null; bool b = this.k(a, true);":                                       "",
		"A? a = null; bool b = this.k(null, a == null);":                               "a",
		"A? a = null; a.n = 1;":                                                        "",
		"A? a = p; a.n = 1;":                                                           "a",
		"A? a = p; a.n = 1; a = null; a.n = 2;":                                        "",
		"A? a = null; a.n = 1; a.n = 2;":                                               "", // what is asked of it tells nothing
		"A? a = null; if (a != null) { a.n = a.f!.n; a.h(a); a = a; }":                 "",
		"A? a = null; if (a != null) { a.n = a.f!.n; a.h(a); }":                        "a",
		"A? a = null; if (a != null) { a.n = 1; } else { a.n = 2; }":                   "",
		"A? a = null; if (a != null && a.n > 0 || a == null) { }":                      "a",
		"A? a = null; if (a != null || a.n > 0) { }":                                   "",
		"A? a = null; if (!(a == null)) { a.n = 2; }":                                  "a",
		"A? a = null; while (a == null) { a = p; } a.n = 1;":                           "a",
		"A? a = p; while (input() > 0) { a.n = 1; a = null; }":                         "",
		"A? a = null; a!.n = 1;":                                                       "",
		"A? a = p; a!.n = 1;":                                                          "", // a guard
		"A? a = p; A b = (a)!;":                                                        "",
		"A? a = p; A b = a.s!;":                                                        "a",
		"A? a = null; return; a.n = 1;":                                                "a",
		"A? a = null; return; a!.n = 1;":                                               "",
		"A? a = null; if (a != null) { A? b = ask(a); }":                               "a",
		"A? a = null; if (a != null) { o = some(a); l[0] = a; this.f = a; }":           "a",
		"A? a = null; o = some(a!);":                                                   "",
		"A? a = null; l[0] = a;":                                                       "",
		"A?[]? a = l; a[0] = p; print(a.length); a[a.length - 1] = a[0];":              "a",
		"A?[]? a = null; a[0] = p;":                                                    "",
		"A? a = null; if (a is some) { }":                                              "",
		"A? a = p; if (a is none) { A b = a.val; }":                                    "a", // it was set to what is not null
		"A? a = null; if (a is none) { A b = a.val; }":                                 "",
		"A? a = p; if (a is none) { }":                                                 "a",
		"A? a = null; A? b = p; b = this.g(a);":                                        "",
		"A? a = null; A? b = p; if (a != null && b != null) { b = a; a = b; }":         "a b",
		"A? a = null; { A? b = null; if (b == null) { b = p; } a = b; } { A? c = a; }": "a b c",
		"A? a = null; { A? b = null; if (b == null) { b = p; } a = b; } if (a == null) { } { A? c = a; }": "a b c",
	} {
		if got := names(t, fits(t, in(block))); got != want {
			t.Errorf("%s: %s, not %s", block, got, want)
		}
	}
}

// P25.1: the locals of other bodies: of inits, of classes that come first, and such as have the names of others.
func TestBodies(t *testing.T) {
	x := fits(t, "class B extends A { init() { super(); A? a = this; A? b = null; this.m(b!); } void m(A a) { A? b = a; a = b; } } class A { init() { A? b = null; A a = new B(); A? c = a; } } class Main { int main() { A? a = null; return 1; } }")
	want := [][]int{{1}, {0}, {0, 2}, {0}} // m, B's init, A's init, main
	for number := range x.Bodies() {
		hold(t, x, number)
		if got := Locals(x, number); !slices.Equal(got, want[number]) {
			t.Errorf("%d: %v, not %v", number, got, want[number])
		}
	}
}

// shown is a change, and of what kind its node is.
func shown(x *base.Info, text string, c plan.Change) string {
	return text[c.From:c.To] + "/" + c.Text + "/" + tree.Name(x.Node(c.Place.Node).Kind)
}

// P25.2: each change: in the place of what, at which node.
func TestChanges(t *testing.T) {
	text := in("A ?a=null; a = p; a = (null); if (a == null || (a) != null && !(((null)) != a)) { a=new A ( ); print((a).n); a.s.h(a) . n=2 ; }")
	x := fits(t, text)
	f := body(t, x)
	list := Changes(x, f, 4)
	var got []string
	for i, c := range list {
		got = append(got, shown(x, text, c))
		if c.Kind != plan.Wrapped || c.Place.Layer != -1 || i > 0 && c.From < list[i-1].From {
			t.Errorf("%+v", c)
		}
	}
	want := "/Option</decl,  ?/>/decl, null/none/null, /some(/var, /)/var, null/none/null, a == null/a is none/binary, (a) != null/ a is some/binary, ((null)) != a/ a is some/binary, /some(/new, /)/new, /.val/var, /.val/var, /.val/var"
	if strings.Join(got, ", ") != want {
		t.Errorf("%s, not %s", strings.Join(got, ", "), want)
	}
	made := changed(text, list)
	if want := in("Option<A>a=none; a = some(p); a = (none); if (a is none ||  a is some && !( a is some)) { a=some(new A ( )); print((a.val).n); a.val.s.h(a.val) . n=2 ; }"); made != want {
		t.Errorf("%s, not %s", made, want)
	}
}

// P25.2: nothing, if it isn't Closed.
func TestNoChanges(t *testing.T) {
	x := fits(t, in("A? a = null; a!.n = 1; A? b = null;"))
	for number := -2; number < 9; number++ {
		for slot := -2; slot < 70; slot++ {
			if got := Changes(x, number, slot); (len(got) > 0) != (number == body(t, x) && slot == 5) {
				t.Errorf("%d, %d: %v", number, slot, got)
			}
		}
	}
}

// P25.2: types: what stands behind the end of the last layer goes.
func TestTypes(t *testing.T) {
	for decl, want := range map[string]string{
		"A? a = null;":                                   "Option<A> a = none;",
		"A?a=null;":                                      "Option<A>a=none;",
		"A ? a = null;":                                  "Option<A> a = none;",
		"A // so\n ? // and\n a = null;":                 "Option<A> // and\n a = none;",
		"A[]? a = null;":                                 "Option<A[]> a = none;",
		"A ? [ ] // so\n ? a = null;":                    "Option<A ? [ ]> a = none;",
		"int[]?[]? a = new int[]?[2];":                   "Option<int[]?[]> a = some(new int[]?[2]);",
		"int[]?[ ]? a = null;":                           "Option<int[]?[ ]> a = none;",
		"{A?a=null;}":                                    "{Option<A>a=none;}",
		"A? a = cast<A>(p);":                             "Option<A> a = some(cast<A>(p));",
		"A? a=p.f!;":                                     "Option<A> a=some(p.f!);",
		"A? a = (p).s;":                                  "Option<A> a = some((p).s);",
		"A? a = ((p)).h((null));":                        "Option<A> a = some(((p)).h((null)));",
		"A? a = ((p).s);":                                "Option<A> a = (some((p).s));",
		"A? a = null; if (a != null) { p = a; }":         "Option<A> a = none; if (a is some) { p = a.val; }",
		"bool c = true; A? a = null; if((a)==null==c){}": "bool c = true; Option<A> a = none; if( a is none==c){}",
		"A? a = null; bool c = !(a!=null)&&a==(null)||false;":                                                "Option<A> a = none; bool c = !(a is some)&&a is none||false;",
		"A? a = null; if (a != null) { a.n = -a.n + a.s.s.n * a.h(a).n; a = a.s; a = a.h(a); }":              "Option<A> a = none; if (a is some) { a.val.n = -a.val.n + a.val.s.s.n * a.val.h(a.val).n; a = some(a.val.s); a = some(a.val.h(a.val)); }",
		"A?[]? a = l; a[a.length]=p; a[0] = a[1]; a = new A?[a.length];":                                     "Option<A?[]> a = some(l); a.val[a.val.length]=p; a.val[0] = a.val[1]; a = some(new A?[a.val.length]);",
		"A? a = p; while(a!=null&&this.k(a,a==null)){a=null;}":                                               "Option<A> a = some(p); while(a is some&&this.k(a.val,a is none)){a=none;}",
		"A? a = p; A? b = a; if (b == null) { b = a; } a = b;":                                               "Option<A> a = some(p); Option<A> b = some(a.val); if (b is none) { b = some(a.val); } a = some(b.val);",
		"A? a = p; o = some(a); a = cast<A>(a); this.f = ask(a); bool c = a == p || p != a;":                 "Option<A> a = some(p); o = some(a.val); a = some(cast<A>(a.val)); this.f = ask(a.val); bool c = a.val == p || p != a.val;",
		"A? a = null; { { A? b = null; if (a == null) { a = this; b = a; } b = this; a = b; } print(a.n); }": "Option<A> a = none; { { Option<A> b = none; if (a is none) { a = some(this); b = some(a.val); } b = some(this); a = some(b.val); } print(a.val.n); }",
	} {
		n := strings.Count(want, "Option<")
		if got, k, f := Wrap(in(decl)); got != in(want) || k != n || f != (api.Fault{}) {
			t.Errorf("%s: %d, %v: %s", decl, k, f, got)
		}
		holdWrap(t, in(decl))
	}
}

// P25.3: what isn't Closed, or wouldn't be the same program, erased, stays; so do options that are there.
func TestLeft(t *testing.T) {
	for block, want := range map[string]string{
		"A? a = null; bool b = null == a;":                                     "", // it would be a == null
		"A? a = null; bool b = a == null || null != a;":                        "",
		"A? a = null; bool b = null == a; A? c = p; bool d = c != null;":       "A? a = null; bool b = null == a; Option<A> c = some(p); bool d = c is some;",
		"A? a = this.f; if (a != null) { a.n = 1; }":                           "",
		"A? a = null; a!.n = 1;":                                               "",
		"Option<A> a = none; if (a is some) { a.val.n = 1; } Option<A> b = o;": "",
		"o = some(p); A? a = o.val; p = a;":                                    "o = some(p); Option<A> a = some(o.val); p = a.val;",
		"A? a = q; A? b = null; if (a != null) { b = a; }":                     "A? a = q; Option<A> b = none; if (a != null) { b = some(a); }",
		"if (q != null) { q.n = 1; }":                                          "",
		"":                                                                     "",
	} {
		if want == "" {
			want = block
		}
		n := strings.Count(want, "Option<A> ") - strings.Count(block, "Option<A> ")
		if got, k, f := Wrap(in(block)); got != in(want) || k != n || f != (api.Fault{}) {
			t.Errorf("%s: %d, %v: %s", block, k, f, got)
		}
		holdWrap(t, in(block))
	}
}

// P25.3: layer 20's Program's faults.
func TestFaults(t *testing.T) {
	for _, x := range []struct {
		text, at string
		code     api.Errno
	}{
		{in("A? a = null; a.n = 1;"), "a.n = 1", api.ErrNull},
		{in("A a = null;"), "null; }", api.ErrNull},
		{in("A? a = o;"), "o; }", api.ErrKind},
		{in("A? a = null; A?[] b = new A[1];"), "new A[1]", api.ErrNull},
		{main + "class A { A f; A? g() { A? a = null; return a; } }", "class A", api.ErrBorn},
		{in("A? a = none; }"), "} class B", api.ErrToken},
		{in("A? a = null; a = b;"), "b; }", api.ErrMissing},
		{in("A? a = null; A? b; a = b;"), "b; }", api.ErrUnset},
		{"", "", api.ErrMain},
	} {
		want := api.Fault{Code: x.code, At: strings.LastIndex(x.text, x.at)}
		if got, k, f := Wrap(x.text); got != "" || k != 0 || f != want {
			t.Errorf("%s: %d, %v, not %v: %s", x.text, k, f, want, got)
		}
	}
}

// P25.1 to P25.3: the chapter's example.
func TestExample(t *testing.T) {
	const text = "class Main { int n; int main() { Main? m = null; if (input() > 0) { m = this; } if (m != null) { return m.n; } return 1; } }"
	const want = "class Main { int n; int main() { Option<Main> m = none; if (input() > 0) { m = some(this); } if (m is some) { return m.val.n; } return 1; } }"
	if got, k, f := Wrap(text); got != want || k != 1 || f != (api.Fault{}) {
		t.Errorf("%d, %v: %s", k, f, got)
	}
	if got, k, f := Wrap(want); got != want || k != 0 || f != (api.Fault{}) {
		t.Errorf("%d, %v: %s", k, f, got)
	}
}

// padded is a text of so many bytes, with blanks at its end.
func padded(text string, n int) string { return text + strings.Repeat(" ", n-len(text)) }

// P25.3: if a text has room for one option alone, it is the first local's, body by body, as they are numbered.
func TestFirst(t *testing.T) {
	const longest = 1 << 16
	for text, want := range map[string]string{
		"class A { init() { A? a = null; } void g() { A? b = null; A? c = null; } } class B { void g() { A? d = null; } } " + main: "b",
		"class B { void g() { A? d = null; } } class A { void g() { { A? b = null; } A? c = null; } } " + main:                     "d",
		"class A { void g() { A? a = null; A b = a!; A? c = null; } init() { A? d = null; } } " + main:                             "c",
		"class A { void g() { A? a = null; bool b = null == a; { { A? c = null; } } A? d = null; } } " + main:                      "c",
		"class A { void g() { } void h() { A? z = null; } void i() { A? a = null; } } " + main:                                     "z",
	} {
		text = padded(text, longest-12)
		got, k, f := Wrap(text)
		if k != 1 || f != (api.Fault{}) || got != strings.Replace(text, "A? "+want+" = null", "Option<A> "+want+" = none", 1) {
			t.Errorf("%.90s: %d, %v: %.90s", text, k, f, got)
		}
		holdWrap(t, text)
		if got, k, f := Wrap(text + "       "); k != 0 || f != (api.Fault{}) || got != text+"       " {
			t.Errorf("%.90s: %d, %v: %.90s", text, k, f, got)
		}
	}
}

// P25.3: a local for which there is no room may have it behind another one's changes.
func TestAgain(t *testing.T) {
	text := "class A { void g() { A? a = null; A? b = null; if ((b)                                      == null) { } } } " + main
	for _, left := range []int{0, 6, 7, 50} {
		got, k, f := Wrap(padded(text, 1<<16-left))
		if k != 2 || f != (api.Fault{}) || !strings.HasPrefix(got, "class A { void g() { Option<A> a = none; Option<A> b = none; if ( b is none) { } } } ") {
			t.Errorf("%d, %v: %.90s", k, f, got)
		}
		holdWrap(t, padded(text, 1<<16-left))
	}
	deep := "class A { A h(bool b) { return this; } void g() { A? a = null; A? b = null; a = " + strings.Repeat("(", 53) + "this.h((((b)) == null))" + strings.Repeat(")", 53) + "; A? c = null; } } " + main
	got, k, f := Wrap(deep)
	if want := "class A { A h(bool b) { return this; } void g() { Option<A> a = none; Option<A> b = none; a = " + strings.Repeat("(", 53) + "some(this.h(( b is none)))" + strings.Repeat(")", 53) + "; Option<A> c = none; } } " + main; k != 3 || f != (api.Fault{}) || got != want {
		t.Errorf("%d, %v: %s", k, f, got)
	}
	holdWrap(t, deep)
}

// P25.3: an option that would be too deep isn't made.
func TestTooDeep(t *testing.T) {
	for brackets, want := range map[int]int{0: 1, 50: 1, 56: 1, 57: 1, 58: 0} {
		text := main + "class A { void g() { A? a = " + strings.Repeat("(", brackets) + "this" + strings.Repeat(")", brackets) + "; } }"
		if n, got := holdWrap(t, text); n != want || (got == text) != (n == 0) {
			t.Errorf("%d brackets: %d", brackets, n)
		}
	}
}

// P25.3: nor is one of too many tokens or nodes: as long as so many more may be.
func TestTooMany(t *testing.T) {
	begin := main + "class A { void g() { A? a = this; "
	for _, x := range []struct {
		what, text string
		left       func(x *base.Info, text string) int
		needs      int
	}{
		{"tokens", strings.Repeat("print("+strings.Repeat("(", 30)+"1"+strings.Repeat(")", 30)+"); ", 250), func(_ *base.Info, text string) int {
			tokens, _ := lex.Lex(text)
			return lex.MaxTokens + 1 - len(tokens) // the end is one of these
		}, 5},
		{"nodes", strings.Repeat("print("+strings.Repeat("-", 50)+"1); ", 155), func(x *base.Info, _ string) int { return parse.MaxNodes - x.Len() }, 1},
	} {
		text := begin + x.text
		for y, _ := strict.Program(text + "} }"); y != nil; y, _ = strict.Program(text + "} }") {
			left := x.left(y, text+"} }")
			if left < 12 {
				got, k, f := Wrap(text + "} }")
				if want := map[bool]int{true: 1, false: 0}[left >= x.needs]; k != want || f != (api.Fault{}) || (got == text+"} }") != (k == 0) {
					t.Errorf("%s, %d left: %d, %v", x.what, left, k, f)
				}
			}
			text += strings.Repeat("{}", max(1, left/2-4))
		}
	}
}
