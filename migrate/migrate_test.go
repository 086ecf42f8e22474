package migrate

import (
	"slices"
	"strings"
	"testing"

	"caulker/api"
	"caulker/diff"
	"caulker/edit"
)

// main is what each program has.
const main = "class Main { int main() { return 1; } } "

// made is what comes of a text in a mode.
func made(t *testing.T, text string, mode Mode) Output {
	t.Helper()
	o, f := Migrate(text, mode)
	if f != (api.Fault{}) {
		t.Fatalf("%v: %v: %.300s", mode, f, text)
	}
	if got, e := edit.Apply(text, o.Edits...); e != api.OK || got != o.Text {
		t.Errorf("%v: the edits make %s, not %s", mode, got, o.Text)
	}
	return o
}

// refused holds what is wrong with a text to what must be.
func refused(t *testing.T, text string, mode Mode, want api.Fault) {
	t.Helper()
	if o, f := Migrate(text, mode); f != want || !same(o, Output{}) {
		t.Errorf("%v: %v, not %v: %.300s", mode, f, want, text)
	}
}

// counts are an output's numbers.
func (o Output) counts() [4]int { return [4]int{o.Marks, o.Guards, o.Options, o.Checks} }

// same: are two outputs the same, whatever memory their lists have?
func same(a, b Output) bool {
	return a.Text == b.Text && a.counts() == b.counts() && slices.Equal(a.Edits, b.Edits) && slices.Equal(a.Trace, b.Trace)
}

// P29.1: a text with which nothing is wrong stays as it is, in every mode, though options could be made and checks left out.
func TestRight(t *testing.T) {
	for _, text := range []string{
		main,
		"class Main{int main(){return 1;}}// so",
		main + "class A { A f; init(A a) { this.f = a; } void g(A a) { a.g(this.f); } }",
		main + "class A { void g(A a) { if (a == null) { a.g(this); } } }",
		main + "class A { int n; A? f; void g(A? a) { A? b = null; if (a != null) { b = a; } if (b != null) { print(b.n); } } }",
		main + "class A { A? f; Option<A> o; init(A a) { this.o = some(a); } void g(A a) { this.f!.g(this.f!); if (a == null) { } } }",
		main + "class A { A?[] l; init() { A?[] k = new A?[3]; this.l = k; } void g(A a) { a!.g(a!); } }",
	} {
		for _, mode := range Modes() {
			if o := made(t, text, mode); !same(o, Output{Text: text}) {
				t.Errorf("%v: %+v", mode, o)
			}
		}
	}
}

// P29.1: of what is asked again nothing is known by that, so something is wrong; the first mark is told.
func TestAsks(t *testing.T) {
	text := main + "class A { void g(A? a) { a.g(a); } void h(A? a) { a!.h(a); a.h(a); } }"
	for _, mode := range Modes() {
		refused(t, text, mode, api.Fault{Code: api.ErrMark, At: strings.Index(text, "A? a")})
	}
}

// P29.1: what is wrong with a text that is no program, in every mode; of one that has marks it is told where the first one is, if something is wrong with it.
func TestFaults(t *testing.T) {
	for _, x := range []struct {
		text, at string
		code     api.Errno
	}{
		{"class A { A f; void g() { this.g( } }", "} }", api.ErrToken},
		{"class A { A f; void g() { this.h(); } }", "this.h()", api.ErrMissing},
		{"class A { A f; A g() { } }", "A g()", api.ErrReturn},
		{"class A { A f; A g() { A a; return a; } }", "a; } }", api.ErrUnset},
		{"class A { A? f; A g() { A a; return a; } }", "a; } }", api.ErrUnset},
		{"class A extends B { A f; } class B extends A { }", "class A", api.ErrCycle},
		{"class A { A f; int g() { return true; } }", "true", api.ErrKind},
		{"class A { A f; \"so", "\"so", api.ErrOpen},
		{"class A { A f; # }", "#", api.ErrSign},
		{"class A { A f; A? g() { return this.f; } }", "A? g()", api.ErrMark},
		{"class A { A f; A g() { return this.f!; } }", "this.f!", api.ErrMark},
		{"class A { A f; bool g(Option<A> o) { return o is some; } }", "Option<A>", api.ErrMark},
	} {
		for _, mode := range Modes() {
			refused(t, main+x.text, mode, api.Fault{Code: x.code, At: len(main) + strings.Index(x.text, x.at)})
		}
	}
	for _, mode := range Modes() {
		refused(t, "", mode, api.Fault{Code: api.ErrMain})
		refused(t, strings.Repeat(" ", 1<<16+1), mode, api.Fault{Code: api.ErrLong})
	}
}

// P29.2: texts in the modes in which marks and guards alone are put in; what isn't written is as in the one ahead.
func TestMarks(t *testing.T) {
	for _, x := range []struct {
		text, guarded, demanded string
		counts                  [2][2]int // marks and guards, without and with demands
		asks                    string    // where a guard is needed first
	}{
		{text: "class A { A f; }", guarded: "class A { A? f; }", counts: [2][2]int{{1, 0}, {1, 0}}},
		{text: "class A { A f; A g(A a) { this.g(null); return this.f; } }", guarded: "class A { A? f; A? g(A? a) { this.g(null); return this.f; } }", counts: [2][2]int{{3, 0}, {3, 0}}},
		{text: "class A { A[] l; init() { this.l = new A[2]; } }", guarded: "class A { A?[] l; init() { this.l = new A?[2]; } }", counts: [2][2]int{{2, 0}, {2, 0}}},
		{text: "class A { A f; void g() { A a = this.f; a.g(); (a).g(); this.f.g(); } }", guarded: "class A { A? f; void g() { A? a = this.f; a!.g(); (a).g(); this.f!.g(); } }", counts: [2][2]int{{2, 2}, {2, 2}}, asks: "a.g();"},
		{text: "class A { A f; void g(A a) { a.g(this.f); } }", guarded: "class A { A? f; void g(A? a) { a!.g(this.f); } }", demanded: "class A { A? f; void g(A a) { a.g(this.f!); } }", counts: [2][2]int{{2, 1}, {1, 1}}, asks: "a.g("},
		{text: "class A { void g(A a) { a.g(null); } }", guarded: "class A { void g(A? a) { a!.g(null); } }", counts: [2][2]int{{1, 1}, {1, 1}}, asks: "a.g("},
		// what isn't needed any more behind a guard of what is given
		{text: "class A { int n; void g(A a) { a.n = 1; } void h() { A v = ask(this); this.g(v); v.n = 2; } }", guarded: "class A { int n; void g(A? a) { a!.n = 1; } void h() { A? v = ask(this); this.g(v); v!.n = 2; } }", demanded: "class A { int n; void g(A a) { a.n = 1; } void h() { A? v = ask(this); this.g(v!); v.n = 2; } }", counts: [2][2]int{{2, 2}, {1, 1}}, asks: "a.n = 1"},
		{text: "class A { int n; void g(A a) { a.n = 1; } void h() { A v = ask(this); this.g(v); A w = v; w.n = 2; } }", guarded: "class A { int n; void g(A? a) { a!.n = 1; } void h() { A? v = ask(this); this.g(v); A? w = v; w!.n = 2; } }", demanded: "class A { int n; void g(A a) { a.n = 1; } void h() { A? v = ask(this); this.g(v!); A w = v; w.n = 2; } }", counts: [2][2]int{{3, 2}, {1, 1}}, asks: "a.n = 1"},
	} {
		text := main + x.text
		if x.demanded == "" {
			x.demanded = x.guarded
		}
		for i, want := range []string{x.guarded, x.demanded} {
			o := made(t, text, Mode{Guards: true, Demands: i == 1})
			if o.Text != main+want || o.counts() != [4]int{x.counts[i][0], x.counts[i][1]} || len(o.Trace) != o.Marks+o.Guards || len(o.Edits) != len(o.Trace) {
				t.Errorf("%s, not %s: %v", o.Text[len(main):], want, o.counts())
			}
		}
		for _, demands := range []bool{false, true} {
			mode := Mode{Demands: demands}
			if x.asks != "" {
				refused(t, text, mode, api.Fault{Code: api.ErrGuard, At: strings.Index(text, x.asks)})
			} else if o := made(t, text, mode); !same(o, made(t, text, Mode{Guards: true})) {
				t.Errorf("%v: %s", mode, o.Text)
			}
		}
	}
}

// P29.2: the edits, and why each is there, in order; what was left out has no line.
func TestTold(t *testing.T) {
	text := main + "class A { A f;\n\tint n; void g(A a) { a.n = 1; }\nvoid h() { A v = ask(this); this.g(v); v.n = 2; A w = this.f; w.h(); } }"
	o := made(t, text, Mode{Guards: true, Demands: true})
	var told []string
	for _, e := range o.Edits {
		told = append(told, text[e.From-1:e.To]+e.Text)
	}
	if want := []string{"A?", "A?", "v!", "A?", "w!"}; !slices.Equal(told, want) {
		t.Errorf("%q, not %q", told, want)
	}
	if want := []string{
		"1:52 ? f: no value yet at 1:41 to f",
		"3:13 ? v: ask at 3:18 to v",
		"3:37 ! given: ask at 3:18 to v",
		"3:50 ? w: no value yet at 1:41 to f, comes at 3:55 to w",
		"3:64 ! asked: no value yet at 1:41 to f, comes at 3:55 to w",
	}; !slices.Equal(o.Trace, want) {
		t.Errorf("%s\nnot\n%s", strings.Join(o.Trace, "\n"), strings.Join(want, "\n"))
	}
	if o.counts() != [4]int{3, 2} {
		t.Errorf("%v", o.counts())
	}
}

// P29.2, P29.3: texts in which options can be made and checks left out: what comes of them with neither, options, checks left out, and both.
var both = []struct {
	text, plain, options, dead, all string
	counts                          [4]int // with both
}{
	{
		"class A { int n; void g() { A a = null; if (input() > 0) { a = this; } if (a != null) { print(a.n); } } }",
		"class A { int n; void g() { A? a = null; if (input() > 0) { a = this; } if (a != null) { print(a.n); } } }",
		"class A { int n; void g() { Option<A> a = none; if (input() > 0) { a = some(this); } if (a is some) { print(a.val.n); } } }",
		"class A { int n; void g() { A? a = null; if (input() > 0) { a = this; } if (a != null) { print(a.n); } } }",
		"class A { int n; void g() { Option<A> a = none; if (input() > 0) { a = some(this); } if (a is some) { print(a.val.n); } } }",
		[4]int{1, 0, 1, 0},
	},
	{
		"class A { A f; void g(A a) { if (a == null || null != a) { this.f = a; } } }",
		"class A { A? f; void g(A a) { if (a == null || null != a) { this.f = a; } } }",
		"class A { A? f; void g(A a) { if (a == null || null != a) { this.f = a; } } }",
		"class A { A? f; void g(A a) { if (false || true) { this.f = a; } } }",
		"class A { A? f; void g(A a) { if (false || true) { this.f = a; } } }",
		[4]int{1, 0, 0, 2},
	},
	{
		"class A { A f; bool g(A a) { A b = null; A c = null; if (b == null) { c = a; } return(a) == null; } }",
		"class A { A? f; bool g(A a) { A? b = null; A? c = null; if (b == null) { c = a; } return(a) == null; } }",
		"class A { A? f; bool g(A a) { Option<A> b = none; Option<A> c = none; if (b is none) { c = some(a); } return(a) == null; } }",
		"class A { A? f; bool g(A a) { A? b = null; A? c = null; if (b == null) { c = a; } return false; } }",
		"class A { A? f; bool g(A a) { Option<A> b = none; Option<A> c = none; if (b is none) { c = some(a); } return false; } }",
		[4]int{3, 0, 2, 1},
	},
	{
		"class A { A f; void g(A a) { A b = this; A c = null; while (b == null) { } c = this.f; c.g(b); } }",
		"class A { A? f; void g(A a) { A b = this; A? c = null; while (b == null) { } c = this.f; c!.g(b); } }",
		"class A { A? f; void g(A a) { A b = this; A? c = null; while (b == null) { } c = this.f; c!.g(b); } }",
		"class A { A? f; void g(A a) { A b = this; A? c = null; while (false) { } c = this.f; c!.g(b); } }",
		"class A { A? f; void g(A a) { A b = this; A? c = null; while (false) { } c = this.f; c!.g(b); } }",
		[4]int{2, 1, 0, 1},
	},
}

// P29.3: options, and checks left out, in the modes in which that may be done; marks, guards and why they are there stay told.
func TestBoth(t *testing.T) {
	for _, x := range both {
		text := main + x.text
		plain := made(t, text, Mode{Guards: true})
		if plain.Text != main+x.plain || plain.counts() != [4]int{x.counts[0], x.counts[1]} {
			t.Errorf("%s, %v", plain.Text, plain.counts())
		}
		for number, comes := range []string{x.plain, x.options, x.dead, x.all} {
			want := Output{Text: main + comes, Edits: plain.Edits, Trace: plain.Trace, Marks: x.counts[0], Guards: x.counts[1]}
			mode := Mode{Guards: true, Options: number&1 > 0, Dead: number&2 > 0}
			if mode.Options {
				want.Options = x.counts[2]
			}
			if mode.Dead {
				want.Checks = x.counts[3]
			}
			if comes != x.plain {
				want.Edits, _, _ = diff.Bytes(text, want.Text)
			}
			if o := made(t, text, mode); !same(o, want) {
				t.Errorf("%v: %+v, not %+v", mode, o, want)
			}
			if x.counts[1] == 0 {
				mode.Guards = false
				if o := made(t, text, mode); !same(o, want) {
					t.Errorf("%v: %+v, not %+v", mode, o, want)
				}
			}
		}
	}
}

// P29.3: the edits are the fewest bytes from the first text on, not from the one with marks.
func TestFewest(t *testing.T) {
	text := main + both[0].text
	o := made(t, text, Mode{Options: true})
	if far, near := diff.Far(text, o.Text); !near || edit.Cost(o.Edits...) != far || len(o.Edits) < 5 {
		t.Errorf("%d: %v", far, o.Edits)
	}
	if got := o.MarkPlaces(); len(got) != 0 {
		t.Errorf("%v", got)
	}
}

// P29.6: all modes, in order.
func TestModes(t *testing.T) {
	list := Modes()
	if len(list) != 16 {
		t.Fatal(list)
	}
	number := 0
	for _, dead := range []bool{false, true} {
		for _, options := range []bool{false, true} {
			for _, demands := range []bool{false, true} {
				for _, guards := range []bool{false, true} {
					if want := (Mode{guards, demands, options, dead}); list[number] != want {
						t.Errorf("%d: %v, not %v", number, list[number], want)
					}
					number++
				}
			}
		}
	}
}

// P29.6: where marks were put in.
func TestMarkPlaces(t *testing.T) {
	put := func(from, to int, text string) api.Edit {
		return api.Edit{Span: api.Span{From: from, To: to}, Text: text}
	}
	for _, x := range []struct {
		list []api.Edit
		want []int
	}{
		{nil, nil},
		{[]api.Edit{put(3, 3, "?"), put(5, 5, "!"), put(7, 7, "?")}, []int{3, 7}},
		{[]api.Edit{put(3, 4, "?"), put(5, 5, "??"), put(6, 6, ""), put(7, 7, " ?"), put(8, 8, "?>"), put(9, 9, "Option<")}, nil},
		{[]api.Edit{put(0, 0, "?"), put(9, 9, "?"), put(4, 4, "?"), put(9, 9, "?"), put(0, 0, "?")}, []int{0, 4, 9}},
		{[]api.Edit{put(7, -7, "?"), put(-7, -7, "?")}, []int{-7}},
	} {
		if got := (Output{Edits: x.list}).MarkPlaces(); !slices.Equal(got, x.want) {
			t.Errorf("%v, not %v", got, x.want)
		}
	}
	o := made(t, main+"class A { A[][] l; A f; void g() { this.l = new A[][3]; this.f.g(); } }", Mode{Guards: true})
	if want := "class A { A[]?[]? l; A? f; void g() { this.l = new A[]?[3]; this.f!.g(); } }"; o.Text != main+want || !slices.Equal(o.MarkPlaces(), []int{len(main) + 13, len(main) + 15, len(main) + 20, len(main) + 51}) {
		t.Errorf("%v: %s", o.MarkPlaces(), o.Text)
	}
}

// P29.2 to P29.4: the document's examples.
func TestExamples(t *testing.T) {
	for _, mode := range Modes() {
		o := made(t, "class Main { Main m; int main() { Main a = this.m; if (a == null) { return 2; } return a.main(); } }", mode)
		if o.Marks != 2 || o.Guards != 0 || len(o.Trace) != 2 || o.Checks != 0 || o.Options != 0 || o.Text != "class Main { Main? m; int main() { Main? a = this.m; if (a == null) { return 2; } return a.main(); } }" {
			t.Errorf("%v: %+v", mode, o)
		}
	}
	text := "class Main { Main m; int main() { Main a = this.m; return a.main(); } }"
	for _, mode := range Modes() {
		if !mode.Guards {
			refused(t, text, mode, api.Fault{Code: api.ErrGuard, At: strings.Index(text, "a.main")})
		} else if o := made(t, text, mode); o.Text != "class Main { Main? m; int main() { Main? a = this.m; return a!.main(); } }" || o.counts() != [4]int{2, 1} {
			t.Errorf("%v: %+v", mode, o)
		}
	}
}
