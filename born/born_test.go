package born

import (
	"slices"
	"strings"
	"testing"

	"caulker/api"
	"caulker/base"
	"caulker/parse"
)

// known is a program, all of whose values have types.
func known(t *testing.T, text string) *base.Info {
	t.Helper()
	p, f := parse.Parse(text)
	if f != (api.Fault{}) {
		t.Fatalf("%v, at %s", f, text[f.At:])
	}
	x, f := base.Of(p)
	if x == nil {
		t.Fatalf("%v, at %s", f, text[f.At:])
	}
	return x
}

// rest is what each program has; nothing is told of its fields.
const rest = " class Main { int main() { return 1; } } class P { P p; int n; init() { this.p = null; this.n = 1; } void see(P p, int n) { } }"

// labels are a text without its labels (an @ and a digit), and which of these stand where.
func labels(text string) (string, map[int]string) {
	parts := strings.Split(text, "@")
	clean, places := parts[0], map[int]string{}
	for _, part := range parts[1:] {
		places[len(clean)] += part[:1]
		clean += part[1:]
	}
	return clean, places
}

// kinds are at which kinds of nodes each cause is told.
var kinds = map[int][]int{NoInit: {api.ClassOf}, Ends: {api.Init, api.Return}, Leaks: {api.This}, Reads: {api.Get}, Above: {api.Init}}

// words are what causes are called.
var words = []string{"", "NoInit", "Ends", "Leaks", "Reads", "Above"}

// told is what is told of a program: of each cause the field's name, why, and the label where, in order.
func told(t *testing.T, text string) string {
	t.Helper()
	text, places := labels(text)
	x := known(t, text)
	var list []string
	for _, l := range Look(x).Late() {
		f, n := x.Node(l.Field), x.Node(l.At)
		if f.Kind != api.Field || l.Why < 1 || l.Why >= len(words) || !slices.Contains(kinds[l.Why], n.Kind) {
			t.Fatalf("%v of %s", l, text)
		}
		list = append(list, f.Text+" "+words[l.Why]+" "+places[n.From])
	}
	hold(t, x)
	return strings.Join(list, ", ")
}

// tells holds what is told of a program to this.
func tells(t *testing.T, text, want string) {
	t.Helper()
	if s := told(t, text+rest); s != want {
		t.Errorf("%s: %s, not %s", text, s, want)
	}
}

// inInit holds what is told of the fields a and b of a class, in whose init these statements stand, to this.
func inInit(t *testing.T, statements, want string) {
	t.Helper()
	tells(t, "class A { A a; A b; @0init(A o, P p, int n) { "+statements+" } int go() { return 1; } A it(A x) { return x; } }", want)
}

// P19.2: a class without an init of its own, whatever its fields are and its ancestors have.
func TestNoInit(t *testing.T) {
	tells(t, "@1class A { A a; int b; A[]? c; Option<A> d; int go() { return this.b; } }", "a NoInit 1, b NoInit 1, c NoInit 1, d NoInit 1")
	tells(t, "class A { init() { } } @1class B extends A { int b; }", "b NoInit 1")
	tells(t, "class A { init() { this.go(); } void go() { } } @1class B extends A { int b; }", "b NoInit 1")
	tells(t, "@1class A { int a; } class B extends A { int b; init() { this.b = this.a; } }", "a NoInit 1")
	tells(t, "@1class A { int a; } class B extends A { int b; @2init() { this.a = 1; } }", "a NoInit 1, b Ends 2")
	tells(t, "class A { } class B { init() { this.go(); } void go() { } } class C extends B { }", "")
}

// P19.1, P19.2: the init's end, and returns, by all ways that lead there.
func TestEnds(t *testing.T) {
	for _, x := range []struct{ statements, want string }{
		{"", "a Ends 0, b Ends 0"}, {"this.b = o;", "a Ends 0"}, {"this.a = null; this.b = null;", ""}, {"o.a = o; this.b = o; this.b = o;", "a Ends 0"}, {"A a = o; this.b = a;", "a Ends 0"},
		{"if (n > 0) { this.a = o; } else { this.b = o; }", "a Ends 0, b Ends 0"}, {"if (n > 0) { this.a = o; this.b = o; } else { this.b = o; }", "a Ends 0"}, {"this.b = o; if (n > 0) { this.a = o; } else { this.a = o; }", ""},
		{"this.b = o; if (n > 0) { this.a = o; }", "a Ends 0"}, {"this.b = o; if (true) { this.a = o; }", "a Ends 0"}, {"this.b = o; if (n > 0) { } else { this.a = o; }", "a Ends 0"}, {"this.b = o; { { this.a = o; } }", ""},
		{"this.b = o; while (n > 0) { this.a = o; }", "a Ends 0"}, {"this.b = o; while (true) { this.a = o; }", "a Ends 0"}, {"this.b = o; while (true) { this.a = o; break; }", "a Ends 0"}, {"this.a = o; while (n > 0) { } this.b = o;", ""},
		{"this.b = o; if (n > 0) { n = 2; @1return; } this.a = o;", "a Ends 1"}, {"this.a = o; if (n > 0) { n = 2; @1return; }", "b Ends 1, b Ends 0"}, {"if (n > 0) { this.a = o; @1return; } else { @2return; }", "a Ends 2, b Ends 1, b Ends 2"},
		{"this.a = o; @1return; this.b = o;", "b Ends 1"}, {"this.a = o; @1return; return; { return; } if (n > 0) { return; }", "b Ends 1"}, {"while (n > 0) { @1return; } this.a = o; this.b = o;", "a Ends 1, b Ends 1"},
		{"while (n > 0) { if (n > 0) { continue; return; } this.a = o; @1return; this.b = o; } this.a = o; this.b = o;", "b Ends 1"}, {"while (n > 0) { if (n > 1) { break; } else { this.a = o; } this.b = o; return; } this.a = o; this.b = o;", ""},
		{"while (n > 0) { while (n > 1) { this.a = o; break; } @1return; } this.a = o; this.b = o; return;", "a Ends 1, b Ends 1"}, {"this.b = o; if (n > 0) { this.a = o; } else { while (n > 0) { this.a = o; } @1return; }", "a Ends 1"},
		{"this.b = o; if (n > 0) { this.a = o; } else { return; } return;", "a Ends "}, {"this.b = o; if (n > 0) { this.a = o; } else { while (n > 1) { } @1return; }", "a Ends 1"},
	} {
		inInit(t, x.statements, x.want)
	}
}

// P19.1, P19.2: where the object is handed on: wherever it is named, but for its own fields.
func TestLeaks(t *testing.T) {
	both := " this.a = o; this.b = o;"
	for _, x := range []struct{ statements, want string }{
		{"@1this.go();" + both, "a Leaks 1, b Leaks 1"}, {"this.a = o; @1this.go(); this.b = o;", "b Leaks 1"}, {both + "this.go();", ""}, {"this.a = @1this; this.b = o;", "a Leaks 1, b Leaks 1"}, {"this.a = o; this.b = @1this;", "b Leaks 1"},
		{"A t = @1this;" + both, "a Leaks 1, b Leaks 1"}, {"o = @1this;" + both, "a Leaks 1, b Leaks 1"}, {"o.a = @1this;" + both, "a Leaks 1, b Leaks 1"}, {"o.it(@1this);" + both, "a Leaks 1, b Leaks 1"}, {"new A(@1this, null, 1);" + both, "a Leaks 1, b Leaks 1"},
		{"print(@1this == o);" + both, "a Leaks 1, b Leaks 1"}, {"print(null != @1this);" + both, "a Leaks 1, b Leaks 1"}, {"@1this!.a = o;" + both, "a Leaks 1, b Leaks 1"}, {"cast<A>(@1this).a = o;" + both, "a Leaks 1, b Leaks 1"}, {"o = ask(@1this);" + both, "a Leaks 1, b Leaks 1"}, {"Option<A> k = some(@1this);" + both, "a Leaks 1, b Leaks 1"},
		{"print(-@1this.go());" + both, "a Leaks 1, b Leaks 1"}, {"print(todouble(@1this.go()));" + both, "a Leaks 1, b Leaks 1"}, {"print(new int[@1this.go()].length);" + both, "a Leaks 1, b Leaks 1"}, {"print(true || @1this == o);" + both, "a Leaks 1, b Leaks 1"}, {"print(!(o == @1this));" + both, "a Leaks 1, b Leaks 1"},
		{"if (@1this == o) {" + both + " @2this.go(); } else { @3this.go(); }", "a Leaks 1, a Leaks 3, a Ends 0, b Leaks 1, b Leaks 3, b Ends 0"}, {"while (@1this == o) {" + both + " } @2this.go();", "a Leaks 1, a Leaks 2, a Ends 0, b Leaks 1, b Leaks 2, b Ends 0"},
		{"@1this.it(@2this).go();" + both, "a Leaks 1, a Leaks 2, b Leaks 1, b Leaks 2"}, {"@1this.it(o).a = o;" + both, "a Leaks 1, b Leaks 1"}, {"o.it(o).a = o.it(@1this);" + both, "a Leaks 1, b Leaks 1"}, {"if (n > 0) { @1return; this.go(); }" + both, "a Ends 1, b Ends 1"},
		{"while (n > 0) { if (n > 1) { break; this.go(); } continue; this.go(); }" + both, ""}, {"while (n > 0) { this.b = o; if (n > 1) { continue; } @1this.go(); }" + both, "a Leaks 1"}, {"this.a = o; if (n > 0) { this.b = o; } @1this.go(); this.b = o;", "b Leaks 1"},
		{"(this).a = o; (@1this).go(); this.b = o;", "b Leaks 1"}, {"P q = new P(); q.see(p, @1this.go());" + both, "a Leaks 1, b Leaks 1"}, {"{ @1this.go(); }" + both, "a Leaks 1, b Leaks 1"},
	} {
		inInit(t, x.statements, x.want)
	}
}

// P19.1, P19.2: where a field is read, whatever is asked of it then.
func TestReads(t *testing.T) {
	both := " this.a = o; this.b = o;"
	for _, x := range []struct{ statements, want string }{
		{"o = @1this.a;" + both, "a Reads 1"}, {"o = @1this.b;" + both, "b Reads 1"}, {"this.a = @1this.a; this.b = this.a;", "a Reads 1"}, {"this.a = @1this.b; this.b = this.a;", "b Reads 1"}, {both + "o = this.a; o = this.b;", ""},
		{"o = o.a; o.a = o.b; o.a.b = o;" + both, ""}, {"@1this.a.b = o;" + both, "a Reads 1"}, {"@1this.a.go();" + both, "a Reads 1"}, {"o = @1this.a.b;" + both, "a Reads 1"}, {"@1this.a.a.b = @2this.b;" + both, "a Reads 1, b Reads 2"}, {"o = o.it(@1this.a).it(@2this.a);" + both, "a Reads 1, a Reads 2"},
		{"print(@1this.a == null);" + both, "a Reads 1"}, {"print(n > 0 && @1this.a == @2this.b);" + both, "a Reads 1, b Reads 2"}, {"o = @1this.a!;" + both, "a Reads 1"}, {"o = cast<A>(@1this.a);" + both, "a Reads 1"}, {"o = new A(@1this.a, null, 1);" + both, "a Reads 1"}, {"A k = ask(@1this.a);" + both, "a Reads 1"},
		{"if (@1this.a == null) { this.a = o; } else { o = @2this.a; } o = @3this.a; this.b = o;", "a Reads 1, a Reads 2, a Reads 3, a Ends 0"}, {"while (@1this.a == null) { this.a = o; o = this.a; } o = @2this.a;" + both, "a Reads 1, a Reads 2"},
		{"if (n > 0) { this.a = o; } else { this.a = o; } o = this.a; this.b = o;", ""}, {"if (n > 0) { this.a = o; } else { @1return; o = this.a; } o = this.a; this.b = o;", "a Ends 1, b Ends 1"}, {"o = @1(this).a;" + both, "a Reads 1"}, {"cast<A>(@1this).a = o;" + both, "a Leaks 1, b Leaks 1"},
	} {
		inInit(t, x.statements, x.want)
	}
	tells(t, "class A { A[] a; int[] b; init() { @1this.a[0] = @2this.a[@3this.b.length]; this.a = new A[1]; this.b = new int[@4this.b[1]]; this.a[0].b = this.b; } }", "a Reads 1, a Reads 2, b Reads 3, b Reads 4")
}
