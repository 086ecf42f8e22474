package trace

import (
	"slices"
	"strings"
	"testing"

	"caulker/api"
	"caulker/infer"
	"caulker/plan"
	"caulker/strict"
)

// main is what each program has, in a line of its own.
const main = "class Main { int main() { return 1; } }\n"

// made is a text's plan, with guards.
func made(t *testing.T, text string, demands bool) *plan.Plan {
	t.Helper()
	p, f := plan.Make(text, true, demands)
	if p == nil {
		t.Fatalf("%v, at %s", f, text[f.At:])
	}
	return p
}

// P28.1, P28.2: why the changes of all kinds are there.
func TestLines(t *testing.T) {
	for _, x := range []struct {
		text string
		want []string
	}{
		{"class A { }", nil},
		{"class A { A f; init() { this.f = this; } void g() { this.f.g(); } }", []string{"2:12 ? f: no value yet at 2:34 to f", "2:59 ! asked: no value yet at 2:34 to f"}},
		// what is null itself
		{"class A { A g(A a) { return null; } void h(A b) {\n this.g((null)); b = ask(b); b.h(this); } }", []string{"2:12 ? g: null at 2:29 to g", "2:16 ? a: null at 3:10 to a", "2:45 ? b: ask at 3:22 to b", "3:31 ! asked: ask at 3:22 to b"}},
		{"class A { init(A a) { } } class B extends A {\ninit() { super(null); } }", []string{"2:17 ? a: null at 3:16 to a"}},
		{"class A { A f; A f() { A f = this.f(); return this.f; } }", []string{"2:12 ? f: no value yet at 2:1 to f", "2:17 ? f: no value yet at 2:1 to f, comes at 2:47 to f", "2:25 ? f: no value yet at 2:1 to f, comes at 2:47 to f, comes at 2:30 to f"}},
		// arrays
		{"class A { A[] l; init() {\n\tthis.l = new A[2];\n\tthis.l[0] = null; } }", []string{"2:12 ? l[]: null at 4:14 to l[]", "3:16 ? new: empty elements at 3:11 to new"}},
		{"class A { A[][][] l; init() {\n\tthis.l = new A[][][2];\n\tthis.l[0][1][2] = null; } }", []string{"2:12 ? l[][][]: null at 4:20 to l[][][]", "2:16 ? l[]: empty elements at 3:11 to new, same elements at 3:11 to l[]", "3:16 ? new[][]: null at 4:20 to l[][][], same elements at 3:11 to new[][]", "3:20 ? new: empty elements at 3:11 to new", "4:11 ! asked: empty elements at 3:11 to new, same elements at 3:11 to l[]"}},
		{"class A { int[][] l; A k(int[][] m) { this.l = m;\nreturn cast<A>(this.k(cast<int[][]>(null))); } }", []string{"2:18 ? l: no value yet at 2:1 to l", "2:33 ? m: null at 3:37 to cast, comes at 3:23 to m", "3:35 ? cast: null at 3:37 to cast"}},
		{"class A { void g(int[] l) {\nthis.g(new int[][3][1]);\n} }", []string{"2:23 ? l: empty elements at 3:8 to new, comes at 3:8 to l", "3:17 ? new: empty elements at 3:8 to new"}},
		{"class A { void g(int[] l) {\nthis.g(ask(new int[][3])[1]);\n} }", []string{"2:23 ? l: empty elements at 3:12 to new, comes at 3:8 to l", "3:21 ? new: empty elements at 3:12 to new", "3:25 ! asked"}},
		// what goes over something
		{"class A { A g(A a) { return a; } } class B extends A {\nA g(A b) { return null; }\nvoid h(A a) { a.g(null); } }", []string{"2:12 ? g: null at 3:19 to g, overridden at 3:1 to g", "2:16 ? a: null at 4:19 to a", "3:2 ? g: null at 3:19 to g", "3:6 ? b: null at 4:19 to a, overridden at 3:1 to b"}},
		// what is guarded
		{"class A { void g(A a) { ask(this)\n.g(ask(a)); (this.h()).g(a); cast<A>(null).g(a); } A h() { return ask(this); } }", []string{"2:19 ? a: ask at 3:4 to a", "2:34 ! asked", "3:22 ! asked: ask at 3:67 to h", "3:36 ? cast: null at 3:38 to cast", "3:43 ! asked: null at 3:38 to cast", "3:53 ? h: ask at 3:67 to h"}},
	} {
		text := main + x.text
		p := made(t, text, true)
		hold(t, text, p, p.Changes())
		y, _ := Of(text, p, p.Changes())
		if got := y.Lines(); !slices.Equal(got, x.want) {
			t.Errorf("%s\nnot %s", strings.Join(got, "\n"), strings.Join(x.want, "\n"))
		}
	}
}

// P28.1, P28.2: what is given to a parameter that is demanded, with and without demands.
func TestGiven(t *testing.T) {
	text := main + "class A { A f; void g(A a) { a.g(this); }\nvoid h() { this.g(this.f); this.g(ask(this)); } }"
	p := made(t, text, true)
	hold(t, text, p, p.Changes())
	x, _ := Of(text, p, p.Changes())
	if want := []string{"2:12 ? f: no value yet at 2:1 to f", "3:25 ! given: no value yet at 2:1 to f", "3:44 ! given"}; !slices.Equal(x.Lines(), want) {
		t.Errorf("%s", strings.Join(x.Lines(), "\n"))
	}
	p = made(t, text, false)
	hold(t, text, p, p.Changes())
	x, _ = Of(text, p, p.Changes())
	if want := []string{"2:12 ? f: no value yet at 2:1 to f", "2:24 ? a: ask at 3:35 to a", "2:31 ! asked: ask at 3:35 to a"}; !slices.Equal(x.Lines(), want) {
		t.Errorf("%s", strings.Join(x.Lines(), "\n"))
	}
}

// The chapter's example.
func TestExample(t *testing.T) {
	text := "class Main {\n  Main m;\n  int main() {\n    Main a = this.m;\n    return a.main();\n  }\n}"
	p := made(t, text, true)
	x, _ := Of(text, p, p.Changes())
	want := []string{"2:7 ? m: no value yet at 1:1 to m", "4:9 ? a: no value yet at 1:1 to m, comes at 4:14 to a", "5:13 ! asked: no value yet at 1:1 to m, comes at 4:14 to a"}
	if got := x.Lines(); !slices.Equal(got, want) {
		t.Errorf("%s", strings.Join(got, "\n"))
	}
}

// P28.1: some of the changes, in any order, are traced one by one; P28.2: others by their text.
func TestSome(t *testing.T) {
	text := main + "class A { A f; void g() {\nthis.f.g(); } }"
	p := made(t, text, true)
	list := p.Changes()
	other := plan.Change{Edit: api.Edit{Span: api.Span{From: len(text), To: len(text)}, Text: "so \"me\"\n\t\\\x01é\xff"}, Kind: plan.Dead, Place: list[1].Place}
	nought := plan.Change{Place: list[1].Place}
	wrapped := plan.Change{Edit: api.Edit{Span: api.Span{From: 41, To: 42}, Text: "none"}, Kind: plan.Wrapped, Place: list[1].Place}
	x, e := Of(text, p, []plan.Change{list[1], other, list[0], nought, list[1], wrapped})
	want := []string{"3:7 ! asked: no value yet at 2:1 to f", `3:16 "so \"me\"\n\t\\\x01é\xff"`, "2:12 ? f: no value yet at 2:1 to f", `1:1 ""`, "3:7 ! asked: no value yet at 2:1 to f", `2:2 "none"`}
	if e != api.OK || !x.Real() || !slices.Equal(x.Lines(), want) {
		t.Errorf("%v: %s", e, strings.Join(x.Lines(), "\n"))
	}
	step := []infer.Step{{From: strict.Nowhere(), To: list[0].Place, Why: strict.Unborn, At: x.Causes()[2].Steps[0].At}}
	for i, steps := range [][]infer.Step{step, nil, step, nil, step, nil} {
		if got := x.Causes()[i]; !slices.Equal(got.Steps, steps) || got.Change != []plan.Change{list[1], other, list[0], nought, list[1], wrapped}[i] {
			t.Errorf("%d: %v", i, got)
		}
	}
	x, e = Of(text, p, nil)
	if e != api.OK || !x.Real() || len(x.Causes()) != 0 || len(x.Lines()) != 0 {
		t.Errorf("of none: %v", e)
	}
}

// P28.1: what was asked of a local ahead tells that it isn't null.
func TestAsks(t *testing.T) {
	text := main + "class A { A f; void g() { A a = this.f; a.g(); a.g(); } }"
	p := made(t, text, true)
	list := p.Changes()
	for node := range p.Result().Info().Len() {
		if n := p.Result().Info().Node(node); n.Kind == api.Var {
			list = append(list, plan.Change{Edit: api.Edit{Span: api.Span{From: n.To, To: n.To}, Text: "!"}, Kind: plan.Asked, Place: strict.Place{Node: node, Layer: -1}})
		}
	}
	x, _ := Of(text, p, list)
	causes := x.Causes()
	if len(list) != 5 || len(causes[3].Steps) != 2 || !slices.Equal(causes[3].Steps, causes[2].Steps) || len(causes[4].Steps) != 0 {
		t.Errorf("%v", causes)
	}
}

// P28.2: what is null itself, in a word.
func TestSource(t *testing.T) {
	for kind := -2; kind < api.Kinds+3; kind++ {
		want := "value"
		switch kind {
		case api.NullLit:
			want = "null"
		case api.Ask:
			want = "ask"
		}
		if got := Source(api.Node{Kind: kind, Text: "ask", Kids: []int{7, -1}}); got != want {
			t.Errorf("%s of the kind %d", got, kind)
		}
	}
}
