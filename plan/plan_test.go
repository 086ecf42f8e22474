package plan

import (
	"slices"
	"strconv"
	"strings"
	"testing"

	"caulker/api"
	"caulker/base"
	"caulker/strict"
	"caulker/tree"
)

// fits is a text's program.
func fits(t *testing.T, text string) *base.Info {
	t.Helper()
	x, f := strict.Fits(text)
	if x == nil {
		t.Fatalf("%v, at %s", f, text[f.At:])
	}
	return x
}

// changed is a text with all changes of its plan; or what is wrong, and where.
func changed(t *testing.T, text string, guards, demands bool) string {
	t.Helper()
	hold(t, text, guards, demands)
	p, f := Make(text, guards, demands)
	if p == nil {
		return "errno " + strconv.Itoa(int(f.Code)) + " at " + text[f.At:]
	}
	made, e := p.Text()
	if e != api.OK {
		t.Fatal(e)
	}
	return made
}

// main is what each program has.
const main = "class Main { int main() { return 1; } } "

// P24.1, P24.2: marks, and guards of what is asked, and of what is given to parameters that are demanded.
func TestMake(t *testing.T) {
	for _, x := range []struct{ text, guarded, demanded string }{
		{"class A { }", "class A { }", ""},
		{"class A { A f; init() { this.f = new A(); } void g() { this.f.g(); } }", "class A { A f; init() { this.f = new A(); } void g() { this.f.g(); } }", ""},
		// marks, at the ends of layers
		{"class A { A f ; A []g; A[ ] [] h; }", "class A { A? f ; A []?g; A[ ] []? h; }", ""},
		{"class A { A g ( ) { return null; } void h(A a,A  b) { this.h(null, a); A c=a; } }", "class A { A? g ( ) { return null; } void h(A? a,A?  b) { this.h(null, a); A? c=a; } }", ""},
		{"class A { void g() { A[][] a = new A [ ] [2] ; a[0][1] = null; } }", "class A { void g() { A?[]?[] a = new A? [ ]? [2] ; a[0]![1] = null; } }", ""},
		{"class A { void g(A a) { a = cast < A > (null); A[] b = cast<A[]>(null); } }", "class A { void g(A? a) { a = cast < A? > (null); A[]? b = cast<A[]?>(null); } }", ""},
		{"class A { void g() { int[] a = null; int[][] b = new int[][1]; } } class B extends A { void g() { } }", "class A { void g() { int[]? a = null; int[]?[] b = new int[]?[1]; } } class B extends A { void g() { } }", ""},
		{"class A { A g(A a) { return a; } } class B extends A { A g(A b) { return null; } void h() { this.g(null); } }", "class A { A? g(A a) { return a; } } class B extends A { A? g(A? b) { return null; } void h() { this.g(null); } }", ""},
		// guards of what is asked
		{"class A { int n; A f; void g() { print(this.f.f.f.n); this . f . n = 1; this.f.f = this.f; } }", "class A { int n; A? f; void g() { print(this.f!.f!.f!.n); this . f! . n = 1; this.f!.f = this.f; } }", ""},
		{"class A { int n; A[] f; void g() { print(this.f[0].n + this.f.length); (this.f)[0] = null; ask(this).g(); (ask(this)).g(); cast<A>(this.f[1]).g(); (cast<A>(null)).g(); } }", "class A { int n; A?[]? f; void g() { print(this.f![0]!.n + this.f!.length); (this.f!)[0] = null; ask(this)!.g(); (ask(this)!).g(); cast<A?>(this.f![1])!.g(); (cast<A?>(null)!).g(); } }", ""},
		{"class A { A f; A g(A a) { A b = null; b.g(b); b = ask(b); while (b != null) { b.g(b); b = b.f; } return b.g(b.f); } }", "class A { A? f; A g(A? a) { A? b = null; b!.g(b); b = ask(b); while (b != null) { b.g(b); b = b.f; } return b!.g(b.f); } }", "class A { A? f; A g(A? a) { A? b = null; b!.g(b); b = ask(b); while (b != null) { b.g(b); b = b.f; } return b!.g(b.f); } }"},
		{"class A { void g(A a) { A b = ask(this) // a b\n ; b // so\n .g(a); } }", "class A { void g(A a) { A? b = ask(this) // a b\n ; b! // so\n .g(a); } }", ""},
		// guards of what is given
		{"class A { int n; void g(A a) { a.n = 1; this.g(ask(a)); } }", "class A { int n; void g(A? a) { a!.n = 1; this.g(ask(a)); } }", "class A { int n; void g(A a) { a.n = 1; this.g(ask(a)!); } }"},
		{"class A { A f; void g(A a , A b) { a.g(a.f , (b)); b.g((ask(b)), this.f); } }", "class A { A? f; void g(A? a , A? b) { a!.g(a.f , (b)); b!.g((ask(b)), this.f); } }", "class A { A? f; void g(A a , A b) { a.g(a.f! , (b)); b.g((ask(b)!), this.f!); } }"},
		{"class A { A f; init(A a) { this.f = a.f; } A g() { return new A(new A(ask(this))); } }", "class A { A f; init(A? a) { this.f = a!.f; } A g() { return new A(new A(ask(this))); } }", "class A { A f; init(A a) { this.f = a.f; } A g() { return new A(new A(ask(this)!)); } }"},
		{"class A { int f; init(A[] a) { this.f = a.length; } } class B extends A { init(A[] b) { super(ask(b)); } }", "class A { int f; init(A[]? a) { this.f = a!.length; } } class B extends A { init(A[] b) { super(ask(b)); } }", "class A { int f; init(A[] a) { this.f = a.length; } } class B extends A { init(A[] b) { super(ask(b)!); } }"},
		{"class A { int n; void g(A a) { a.n = 1; this.g(cast<A>(null)); this.g(cast<A>(a)); } }", "class A { int n; void g(A? a) { a!.n = 1; this.g(cast<A?>(null)); this.g(cast<A>(a)); } }", "class A { int n; void g(A a) { a.n = 1; this.g(cast<A?>(null)!); this.g(cast<A>(a)); } }"},
		{"class A { int n; A f; void g(A a) { a.n = 1; this.f.f.g(this.f.f); } }", "class A { int n; A? f; void g(A? a) { a!.n = 1; this.f!.f!.g(this.f!.f); } }", "class A { int n; A? f; void g(A a) { a.n = 1; this.f!.f!.g(this.f!.f!); } }"},
		// null itself
		{"class A { int n; void g(A a) { a.n = 1; this.g(null); this.g(ask(a)); } }", "class A { int n; void g(A? a) { a!.n = 1; this.g(null); this.g(ask(a)); } }", ""},
	} {
		if x.demanded == "" {
			x.demanded = x.guarded
		}
		if got := changed(t, main+x.text, true, false); got != main+x.guarded {
			t.Errorf("%s, not %s", got, x.guarded)
		}
		if got := changed(t, main+x.text, true, true); got != main+x.demanded {
			t.Errorf("%s, not %s", got, x.demanded)
		}
	}
}

// P24.1: without guards none are put in, and no places are shut; what is asked of a local tells nothing then.
func TestNoGuards(t *testing.T) {
	for _, x := range []struct{ text, want string }{
		{"class A { A f; A g(A a) { this.g(null); return this.f; } }", "class A { A? f; A? g(A? a) { this.g(null); return this.f; } }"},
		{"class A { int n; A f; void g() { A a = this.f; if (a != null) { a.n = 2; } } }", "class A { int n; A? f; void g() { A? a = this.f; if (a != null) { a.n = 2; } } }"},
		{"class A { A f; void g(A a) { if (a == null) { return; } a.g(a); this.g(this.f); } }", "class A { A? f; void g(A? a) { if (a == null) { return; } a.g(a); this.g(this.f); } }"},
		{"class A { A f; void g(A a) { a.g(a); } }", "class A { A? f; void g(A a) { a.g(a); } }"},
		{"class A { void g(A a) { while (a == null) { } this.g(ask(a)); } }", "class A { void g(A? a) { while (a == null) { } this.g(ask(a)); } }"},
	} {
		for _, demands := range []bool{false, true} {
			if got := changed(t, main+x.text, false, demands); got != main+x.want {
				t.Errorf("%s, not %s", got, x.want)
			}
		}
	}
}

// P24.1: what is wrong, and where.
func TestFaults(t *testing.T) {
	for _, x := range []struct {
		text, at string
		code     api.Errno
	}{
		// layer 20's Fits' faults
		{"class A { A? f; void g() { this.g( } }", "} }", api.ErrToken},
		{"class A { A? f; void g() { this.h(); } }", "this.h()", api.ErrMissing},
		{"class A { A? f; A g() { } }", "A g()", api.ErrReturn},
		{"class A { A f; A g() { A a; return a; } }", "a; } }", api.ErrUnset},
		{"\"", "\"", api.ErrOpen},
		// what is of the strict language
		{"class A { A? f; void g() { this.f.g(); } }", "A? f", api.ErrMark},
		{"class A { A f; void g() { this.f.g(); A a = this.f!; } A? h() { return this.f!; } }", "this.f!; } A?", api.ErrMark},
		{"class A { void g() { A[]?[] a = null; } }", "A[]?[]", api.ErrMark},
		{"class A { A f; void g(A a, Option<A> o, A? b) { } }", "Option<A>", api.ErrMark},
		{"class A { A f; A h() { return this.f; } A? g() { return (this.h())!; } }", "A? g()", api.ErrMark},
		{"class A { A f; void g(A a) { a = cast<A?>(a); } }", "cast<A?>", api.ErrMark},
		{"class A { A f; void g(A a) { print(1 + new A?[3].length); } }", "new A?[3]", api.ErrMark},
		{"class A { A f; void g(A a) { ((a))!.g(some(a)!); } }", "((a))!", api.ErrMark},
		{"class A { A f; void g(A a) { a.g(some(a)!); } }", "some(a)!", api.ErrMark},
		{"class A { A f; void g(A a) { print(a is some); } }", "a is some", api.ErrMark},
		{"class A { A f; void g(A a) { print(a is none); } }", "a is none", api.ErrMark},
		{"class A { A f; void g(A a) { a = a.val; } }", "a.val", api.ErrMark},
	} {
		text := x.text
		if text != "\"" {
			text = main + text
		}
		at := strings.LastIndex(text, x.at)
		for mode := range 4 {
			want := api.Fault{Code: x.code, At: at}
			if p, f := Make(text, mode&1 == 1, mode&2 == 2); p != nil || f != want {
				t.Errorf("%s: %v, not %v", x.text, f, want)
			}
		}
	}
}

// P24.1: where guards are needed, and none may be put in, the first of them in the order of the nodes is told.
func TestGuardFaults(t *testing.T) {
	for _, x := range []struct{ text, at string }{
		{"class A { A f; void g() { this.f.g(); } }", "this.f.g"},
		{"class A { int n; A f; A g(A a) { this.g(null); print(a.n); return a; } }", "a.n"},
		{"class A { int n; void g(A a) { a = this; a = null; } void h(A a) { print((a).n); a = null; } }", "a).n"},
		{"class A { int n; A f; A g(int i) { return this.g(this.f.n).f; } }", "this.f.n"},
		{"class A { int n; A f; A g(int i) { (this.g(this.f.n)).f = null; return null; } }", "this.f.n"},
		{"class A { A f; A[] l; void g() { (this.l)[1].g(); } }", "this.l)"},
		{"class A { void g(A a) { a.g(null); print(a == null); } }", "a.g(null)"},
	} {
		text := main + x.text
		for _, demands := range []bool{false, true} {
			want := api.Fault{Code: api.ErrGuard, At: strings.Index(text, x.at)}
			if p, f := Make(text, false, demands); p != nil || f != want {
				t.Errorf("%s: %v, not %v", x.text, f, want)
			}
			hold(t, text, false, demands)
		}
	}
}

// P24.2, P24.3: each change: what is put in where, of what kind, at which node.
func TestChanges(t *testing.T) {
	text := main + "class A { A[] f; void g(A a) { a.g(this.f[0]); } void h() { A[][] b = new A[][2]; b[0][1] = null; this.f = b[1]; } }"
	x := fits(t, text)
	p, f := Make(text, true, true)
	if p == nil {
		t.Fatal(f)
	}
	var got []string
	for _, c := range p.Changes() {
		n := x.Node(c.Place.Node)
		if c.From != c.To || c.Kind == Mark && c.From != n.Ends[c.Place.Layer] || c.Kind != Mark && c.From != n.To || c.Text != map[bool]string{true: "?", false: "!"}[c.Kind == Mark] {
			t.Errorf("%+v", c)
		}
		got = append(got, []string{"", "mark", "asked", "given"}[c.Kind]+" "+tree.Name(n.Kind)+" "+n.Text+strconv.Itoa(c.Place.Layer))
	}
	want := "mark field f0, mark field f1, asked get f-1, given index -1, mark decl b0, mark decl b1, mark array 0, mark array 1, asked index -1"
	if strings.Join(got, ", ") != want {
		t.Errorf("%s, not %s", strings.Join(got, ", "), want)
	}
	if p.Demands() != 1 {
		t.Errorf("%d", p.Demands())
	}
}

// P24.3: how many places were shut.
func TestDemands(t *testing.T) {
	text := main + "class A { int n; init(A a) { a.n = 1; } void g(A a, A[] b, A c) { a.n = b.length; } void h(A a) { a = this; a.n = 1; } }"
	for _, x := range []struct {
		guards, demands bool
		want            int
	}{{false, false, 0}, {false, true, 0}, {true, false, 0}, {true, true, 3}} {
		p, f := Make(text, x.guards, x.demands)
		if p == nil {
			t.Fatal(f)
		}
		if p.Demands() != x.want {
			t.Errorf("%t, %t: %d, not %d", x.guards, x.demands, p.Demands(), x.want)
		}
	}
}

// P24.3: what the marks were found by.
func TestResult(t *testing.T) {
	text := main + "class A { A f; void g(A a) { a.g(this.f); A b = this.f; b.g(b); } }"
	p, f := Make(text, true, false)
	q, _ := Make(text, true, true)
	if p == nil || q == nil {
		t.Fatal(f)
	}
	if r := p.Result(); len(r.Marked()) != 3 || len(r.Guards()) != 2 || len(r.Cuts()) != 0 || !tree.Same(r.Info().Tree(), fits(t, main+"class A { A? f; void g(A? a) { a.g(this.f); A? b = this.f; b.g(b); } }").Tree()) {
		t.Errorf("%v, %v, %v", r.Marked(), r.Guards(), r.Cuts())
	}
	if r := q.Result(); len(r.Marked()) != 2 || len(r.Guards()) != 1 || len(r.Cuts()) != 1 || r.Rounds() != 3 {
		t.Errorf("%v, %v, %v, %d", r.Marked(), r.Guards(), r.Cuts(), r.Rounds())
	}
}

// change is one of some numbers.
func change(from, to, kind, node int, text string) Change {
	return Change{Edit: api.Edit{Span: api.Span{From: from, To: to}, Text: text}, Kind: kind, Place: strict.Place{Node: node, Layer: 3 - node}}
}

// P24.3: changes by their From, then To, Kind, and the place's node; those that are alike stay in order.
func TestSort(t *testing.T) {
	want := []Change{
		change(-5, 9, 9, 9, "z"), change(0, 0, 3, 4, ""), change(1, 0, 9, 9, ""), change(1, 1, 0, 9, ""), change(1, 1, 1, -2, "y"), change(1, 1, 1, 1, "x"), change(1, 1, 1, 2, "b"), change(1, 1, 1, 2, "a"), change(1, 1, 2, 0, ""), change(1, 2, -1, 0, ""), change(2, 2, 1, 1, ""), change(2, 2, 1, 1, ""), change(3, 0, 0, 0, ""),
	}
	for turn := range len(want) {
		var list []Change
		for i := range want {
			list = append(list, want[(i*5+turn)%len(want)])
		}
		a, b := slices.Index(list, want[6]), slices.Index(list, want[7]) // these two are alike, so they stay in order
		if a > b {
			list[a], list[b] = list[b], list[a]
		}
		Sort(list)
		if !slices.Equal(list, want) {
			t.Errorf("%v", list)
		}
	}
	list := []Change{{Place: strict.Place{Layer: 2}}, {Place: strict.Place{Layer: 1}}, {Edit: api.Edit{Text: "b"}}, {Edit: api.Edit{Text: "a"}}}
	alike := slices.Clone(list)
	Sort(list)
	if !slices.Equal(list, alike) {
		t.Errorf("%v", list)
	}
	Sort(nil)
	Sort(list[:0])
}

// P24.3: the edits of changes, as they stand.
func TestEdits(t *testing.T) {
	list := []Change{change(4, 2, 1, 1, "a"), change(1, 3, 9, -1, ""), change(1, 3, 9, -1, "")}
	want := []api.Edit{{Span: api.Span{From: 4, To: 2}, Text: "a"}, {Span: api.Span{From: 1, To: 3}}, {Span: api.Span{From: 1, To: 3}}}
	if got := Edits(list); !slices.Equal(got, want) {
		t.Errorf("%v", got)
	}
	if got := Edits(nil); len(got) != 0 {
		t.Errorf("%v", got)
	}
}

// P24.1 to P24.4: the chapter's example.
func TestExample(t *testing.T) {
	const text = "class Main { Main m; int main() { Main a = this.m; return a.main(); } }"
	if got := changed(t, text, true, true); got != "class Main { Main? m; int main() { Main? a = this.m; return a!.main(); } }" {
		t.Error(got)
	}
	if got := changed(t, text, false, false); got != "errno 290 at a.main(); } }" {
		t.Error(got)
	}
}
