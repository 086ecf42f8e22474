package born

import (
	"math"
	"slices"
	"strings"
	"testing"

	"caulker/api"
	"caulker/tree"
)

// P19.3: the object, and the fields of all ancestors, while the arguments of a super are reckoned.
func TestSuper(t *testing.T) {
	top := "class O { int o; init() { this.o = 1; } } class A extends O { int a; A e; init(int n, A x) { super(); this.a = n; this.e = x; } int go() { return 1; } } @9class B extends A { int b; "
	for _, x := range []struct{ rest, want string }{
		{"init() { super(@1this.go(), null); this.b = 1; } }", "o Leaks 1, a Leaks 1, e Leaks 1, b Leaks 1"}, {"init() { super(1, @1this); this.b = 1; } }", "o Leaks 1, a Leaks 1, e Leaks 1, b Leaks 1"},
		{"init() { super(1, cast<A>(@1this).e); this.b = 1; } }", "o Leaks 1, a Leaks 1, e Leaks 1, b Leaks 1"}, {"@2init() { super(@1this.go(), null); } }", "o Leaks 1, a Leaks 1, e Leaks 1, b Leaks 1, b Ends 2"},
		{"init() { super(@1this.a, null); this.b = 1; } }", "a Reads 1"}, {"init() { super(@1this.o, @2this.e); this.b = 1; } }", "o Reads 1, e Reads 2"}, {"init() { super(@1this.b, null); this.b = 1; } }", "b Reads 1"},
		{"init() { super(@1this.e.go() + @2this.b, @3this.e.e); this.b = 1; } }", "e Reads 1, e Reads 3, b Reads 2"}, {"init() { super(1, null); this.b = this.a + this.o + @1this.go(); } }", "b Leaks 1"}, {"init() { super(1, null); this.b = this.a; this.go(); this.e = this; } }", ""},
		{"init(A x) { super(x.a, x.e); this.b = 1; } }", ""}, {"init(B x) { super(x.b + 1, new A(x.go(), x)); this.b = 1; } }", ""}, {"init() { super(1, null); this.a = 2; this.b = this.e.a; } } class C extends B { int c; init() { super(); this.c = this.b; } }", ""},
		{"} class C extends B { int c; init() { super(@1this.b + @2this.a, @3this); this.c = 1; } }", "o Leaks 3, a Reads 2, a Leaks 3, e Leaks 3, b NoInit 9, b Reads 1, b Leaks 3, c Leaks 3"},
		{"} class C extends B { int c; init() { super(1, null); this.c = this.b + this.a; } }", "b NoInit 9"},
	} {
		tells(t, top+x.rest, x.want)
	}
}

// P19.3: fields of classes whose ancestors' objects leak, whatever their own inits do.
func TestAbove(t *testing.T) {
	for _, x := range []struct{ text, want string }{
		{"class A { int a; init() { this.a = 1; this.go(); } void go() { } } class B extends A { int b; int c; @1init() { super(); this.b = 1; this.c = this.b; } } class C extends B { int d; @2init() { super(); this.d = 1; } } @3class D extends B { int e; } class E extends D { int f; @4init() { super(); this.f = 1; } }", "b Above 1, c Above 1, d Above 2, e NoInit 3, f Above 4"},
		{"class A { init() { this.go(); } void go() { } } class B extends A { int b; @1init() { super(); } }", "b Ends 1, b Above 1"}, {"class A { init() { this.go(); } void go() { } } class B extends A { int b; @1init() { super(); @2this.go(); } }", "b Leaks 2, b Ends 1, b Above 1"},
		{"class C extends B { int c; @1init() { super(); this.c = 1; } } class B extends A { int b; init() { super(); this.b = 1; this.go(); } } class D extends A { int d; init() { super(); this.d = 1; } } class A { int a; init() { this.a = 1; } void go() { } }", "c Above 1"},
		{"class A { init() { return; this.go(); } void go() { } } class B extends A { int b; init() { super(); this.b = 1; } }", ""}, {"class A { init(int n) { if (n > 0) { this.go(); } } void go() { } } class B extends A { int b; @1init() { super(0); this.b = 1; } }", "b Above 1"},
		{"class A { init(int n) { } int go() { return 1; } } class B extends A { init() { super(this.go()); } } class C extends B { int c; @1init() { super(); this.c = 1; } }", "c Above 1"}, {"class A { init(A a) { } } class B extends A { A k; init() { super(@1this.k); this.k = @2this.k; } } class C extends B { int c; init() { super(); this.c = 1; } }", "k Reads 1, k Reads 2"},
	} {
		tells(t, x.text, x.want)
	}
}

// P19.3: whose objects leak, whether a field has no value then or not.
func TestLeaksOf(t *testing.T) {
	for text, want := range map[string]string{
		"class A { } class B extends A { init() { } }": "",
		"class A { int n; init() { this.n = this.n; } } class B extends A { init() { super(); return; this.go(); } void go() { this.go(); } }":     "",
		"class A { init() { A x = this; } } class B extends A { } class C extends B { init() { super(); } } class D { }":                           "A B C",
		"class C extends B { init() { super(); } } class B extends A { init() { super(); this.go(); } } class A { init() { } void go() { } }":      "B C",
		"class A { init(A a) { } } class B extends A { int b; init() { super(this); this.b = 1; } } class C extends A { init() { super(null); } }": "B",
		"class A { int n; init() { this.n = 1; if (false) { print(this == null); } } }":                                                            "A",
		"class A { A a; init() { while (true) { break; this.a.a = this; } this.a = null; this.a.a.a = this.a; } }":                                 "",
	} {
		x := known(t, text+rest)
		r := Look(x)
		for _, name := range []string{"A", "B", "C", "D", "P", "Main", "", "a", "Q"} {
			if is := slices.Contains(strings.Fields(want), name); r.Leaks(name) != is {
				t.Errorf("%s: %s %t", text, name, !is)
			}
		}
		hold(t, x)
	}
}

// P19.4: which fields are among the causes, and no other nodes.
func TestIs(t *testing.T) {
	x := known(t, "class A { int a; A b; A c; init() { this.a = 1; this.c = this.b; } } class B extends A { int d; }"+rest)
	r := Look(x)
	for node := -3; node < x.Len()+3; node++ {
		n := x.Node(node)
		if want := n.Kind == api.Field && (n.Text == "b" || n.Text == "d"); r.Is(node) != want {
			t.Errorf("%d: %t", node, !want)
		}
	}
	if r.Is(math.MinInt) || r.Is(math.MaxInt) {
		t.Error("far")
	}
}

// P2: the answers are in memory of their own, and the program stays as it is.
func TestAlone(t *testing.T) {
	x := known(t, "class A { A a; A b; init() { this.a = this.b; } }"+rest)
	form := tree.Form(x.Tree(), x.Tree().Root)
	r := Look(x)
	list, more := r.Late(), r.Late()
	if len(list) != 2 || !slices.Equal(list, more) {
		t.Fatalf("%v, %v", list, more)
	}
	for i := range list {
		list[i] = Late{}
	}
	_ = append(list[:1], Late{Field: 7})
	if !slices.Equal(r.Late(), more) || !r.Is(more[0].Field) || !slices.Equal(Look(x).Late(), more) || tree.Form(x.Tree(), x.Tree().Root) != form {
		t.Error("not the same any more")
	}
}
