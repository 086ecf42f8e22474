package flow

import (
	"math"
	"strconv"
	"strings"
	"testing"

	"caulker/api"
	"caulker/base"
	"caulker/parse"
	"caulker/tree"
)

// known is a program with which nothing is wrong.
func known(t *testing.T, text string) *base.Info {
	t.Helper()
	p, f := parse.Parse(text)
	if f != (api.Fault{}) {
		t.Fatalf("%v, at %s", f, text[f.At:])
	}
	x, f := base.Of(p)
	if x == nil {
		t.Fatalf("%v, at %s", f, text[f.At:])
	}
	return x
}

// inMain is a program whose Main has a method in which these statements stand: the body 1.
func inMain(statements string) string {
	return "class Main { int n; Main? m; Main s; Main?[] l; Option<Main> k; int main() { return 1; } void f(Main? a, Main? b, Main c, Option<Main> o, Main?[]? l, bool p, int i) { " + statements + " } Main? g(Main? m) { return m; } Main h(Main? m) { return this; } }"
}

// marked is a program, and the names in it that stand behind a ^, with true, and behind a ~, with false.
func marked(t *testing.T, statements string) (*base.Info, map[int]bool) {
	t.Helper()
	text, places := "", map[int]bool{}
	for _, b := range []byte(inMain(statements)) {
		if b == '^' || b == '~' {
			places[len(text)] = b == '^'
			continue
		}
		text += string(b)
	}
	x := known(t, text)
	nodes := map[int]bool{}
	for node := range x.Len() {
		n := x.Node(node)
		if want, ok := places[n.From]; ok && n.Kind == api.Var {
			nodes[node] = want
		}
	}
	if len(nodes) == 0 || len(nodes) != len(places) {
		t.Fatalf("%d names, not %d, in %s", len(nodes), len(places), text)
	}
	return x, nodes
}

// tells holds what is known of marked names to the marks, whether what is asked tells, too, or not, and all to the model.
func tells(t *testing.T, asks bool, statements string) {
	t.Helper()
	x, nodes := marked(t, statements)
	f := Solve(x, 1, asks)
	for node, want := range nodes {
		if f.Holds(node) != want {
			t.Errorf("%s: %t at %d", statements, !want, x.Node(node).From)
		}
	}
	hold(t, x)
}

// P18.2, P18.3: where a local is known not to be null, whatever is asked of it.
func TestHolds(t *testing.T) {
	for _, statements := range []string{
		// at the beginning
		"print(~a.n + ^c.n + ^i); if (^p) { } print(~o is some); print(~l.length);",
		// what is set
		"a = c; ^a.g(~b); b = ^a; ^b.g(^a);", "a = this; ^a.g(null); a = this.m; ~a.g(null); a = this.s; ^a.g(null); a = null; ~a.g(null); a = new Main(); ^a.g(null);",
		"a = b; ~a.g(~b); if (b != null) { a = ^b; ^a.g(^b); } ~a.g(~b);", "a = c; b = a; a = null; ^b.g(~a);", "a = ^c; a = ^a; ^a.g(null); a = ~b; a = ~a; ~a.g(null);",
		"a = this.g(~a); ~a.g(null); a = this.h(~a); ^a.g(null); a = cast<Main>(~b); ^a.g(null); a = cast<Main?>(^c); ~a.g(null); a = ask(^c); ~a.g(null);",
		"a = this.l[0]; ~a.g(null); l = this.l; ^l[0].g(null); l = new Main?[1]; ^l[0] = null; a = ^l[0]; ~a.g(null);", "a = (~b)!; ^a.g(^b); ",
		"o = none; print(~o is some); o = some(~a); a = ^o.val; ^a.g(null); o = this.k; print(~o is some); o = some(^c); print(^o is none);",
		"Main? d; ~d.g(null); d = this; ^d.g(null); Main? e = ^d; ^e.g(null); Main? q = ~a; ~q.g(null);", "while (p) { Main? d; if (~d != null) { } d = this; ^d.g(null); }",
		// what types say
		"Main d; ^d.g(null); a = ^d; ^a.g(null); Main e = null; ^e.g(null); e = ~b; a = ^e; ^a.g(null);", "c = ~a; ^c.g(null); a = ^c; ^a.g(null);", "Option<Main> k; print(~k is none);", "int j; print(^j); bool q; print(^q);",
		// tests
		"if (~a != null) { ^a.g(^a); } else { ~a.g(null); } ~a.g(null);", "if (~a == null) { ~a.g(null); } else { ^a.g(null); } ~a.g(null);", "if (null != ~a) { ^a.g(null); }", "if (null == ~a) { } else { ^a.g(null); }",
		"if (~o is some) { ^o.val.g(null); } else { print(~o is some); }", "if (~o is none) { print(~o is some); } else { ^o.val.g(null); }", "if (~l == null) { return; } ^l[0] = ~a;", "if (~o == null) { return; } print(^o is some);",
		"if (~a == null) { return; } ^a.g(null);", "if (~a == null) { a = this; } ^a.g(null);", "if (~a != null) { a = ^a.m; } ~a.g(null);", "if (~a != null) { a = this.m; } else { a = this; } ~a.g(null);",
		"if (!(~a == null)) { ^a.g(null); }", "if (!!(~a != null)) { ^a.g(null); }", "if (~a != null && ~b != null) { ^a.g(^b); } ~a.g(~b);", "if (~a != null && ^a.n > 0) { ^a.g(null); } ~a.g(null);", "if (~a == null || ^a.n > 0) { ~a.g(null); } else { ^a.g(null); }",
		"if (~a == null || ~b == null) { return; } ^a.g(^b);", "if (~a != null || ~b != null) { ~a.g(~b); } ~a.g(~b);", "if (!(~a == null || ^p)) { ^a.g(null); }", "if (!(~a != null && ^p)) { ~a.g(null); } else { ^a.g(null); }",
		"if (~a == ~b) { ~a.g(null); }", "if (~a == ^c) { ~a.g(null); }", "if ((~a == null) == false) { ~a.g(null); }", "p = ~a != null; if (^p) { ~a.g(null); }", "p = ~a != null && ^a.n > 0 || ~a == null; ~a.g(null);", "print(~a == null || ^a.n > 0); ~a.g(null);", "if (~a != null) { } ~a.g(null);",
		// guards, and what is asked
		"(~a)!.g(^a); ^a.g(null);", "if ((~a)! == null) { } ^a.g(null);", "if (^p && ~a!.n > 0) { ^a.g(null); } ~a.g(null);", "~a.g(~a); ~a.m.g(null); ~l[0] = ~a; print(~l.length); ~a.n = 1; ~a.n = 2;",
		"~a.m!.g(null); ~a.g(null); (ask(~a))!.g(null); ~a.g(null);", "~l![~a.n].g(null); ^l[0] = null;", "print((~o)! == null); print(^o is some);", "a = ~b!; b = null; ^a.g(~b);", "(~a!)!.g(^a);",
		// loops
		"while (~a == null) { a = this.m; } ^a.g(null);", "while (~a != null) { ^a.g(null); a = ^a.m; } ~a.g(null);", "if (~a != null) { while (^p) { ~a.g(null); a = this.m; } ~a.g(null); }", "if (~a != null) { while (^p) { ^a.g(null); } ^a.g(null); }", "if (~a != null) { while (^p) { ^a.g(null); a = null; break; } ~a.g(null); }",
		"while (true) { if (~a != null) { break; } a = this.m; } ~a.g(null);", "while (^p) { if (~a == null) { return; } } ~a.g(null);", "if (~a == null) { return; } while (^p) { if (^i > 0) { continue; } ^a.g(null); } ^a.g(null);", "if (~a == null) { return; } while (^p) { if (^i > 0) { a = null; continue; } } ~a.g(null);",
		"a = this; b = this; while (^p) { ~a.g(~b); a = ~b; b = this.m; }", "a = this; b = this; Main? d = this; Main? e = this; while (^p) { ~a.g(~b); ~d.g(~e); a = ~b; b = ~d; d = ~e; e = null; }", "a = this; while (^p) { while (^p) { while (^p) { ~a.g(null); } a = ~b; } }", "a = this; while (^p) { while (^p) { a = this; ^a.g(null); } ~a.g(null); a = null; }",
		"Main? d = null; while (^p) { if (~d != null) { ^d.g(null); } d = this; }", "while (~a == null || ^a.n > 0) { a = this.m; } ^a.g(null);", "while (^p && ~a != null) { ^a.g(null); } ~a.g(null);",
		// where no way leads
		"return; print(^a.n); if (^o is none) { print(^o is some); }", "while (^p) { break; print(^a.n); }", "while (^p) { continue; a = ^b; }", "if (^p) { return; } else { return; } ^a.g(^b);",
		"if (^p) { a = this; } else { return; a = null; } ^a.g(null);", "if (~a == null) { return; } if (^p) { a = null; return; } ^a.g(null);",
	} {
		tells(t, false, statements)
	}
}

// P18.2: what is asked of a local tells that it isn't null, too.
func TestAsks(t *testing.T) {
	for _, statements := range []string{
		"~a.g(^a); ^a.g(null);", "print(~a.n); print(^a.n);", "print(~l.length); ^l[0] = ~a;", "~l[0] = ~a; print(^l.length);", "~l[~a.n].g(null); print(^l.length + ^a.n);", "~a.n = ^a.n; ^a.g(null);", "~a.m.g(~b); ^a.g(null);",
		"~a.n = 1; ^a.m = ~b; b = ^a.m; ~b.g(null);", "if (~a.n > 0) { ^a.g(null); } ^a.g(null);", "if (^p && ~a.n > 0) { ^a.g(null); } ~a.g(null);", "if (^p || ~a.n > 0) { ~a.g(null); } else { ^a.g(null); }", "if (^p) { ~a.g(null); } ~a.g(null);", "if (^p) { ~a.g(null); } else { ~a.n = 1; } ^a.g(null);",
		"while (~a.n > 0) { ^a.g(null); a = ^a.m; } ^a.g(null);", "while (^p) { ~a.g(null); } ~a.g(null);", "~a.g(null); a = ^a.m; ~a.g(null); ^a.g(null); b = ^a; ^b.g(^a);", "(~a)!.g(^a); (~b).g(^b);", "print(~o.val.n); print(~o.val.n);", "a = ~a.m; ~a.g(null);",
		"this.g(~a); this.g(~a); a = ask(~b); a = cast<Main?>(~b); ~a.m.m.g(null); ^a.m!.g(^a);", "~a.m!.g(null); ^a.m.g(null);",
	} {
		tells(t, true, statements)
	}
	tells(t, false, "~a.g(~a); ~a.n = 1; print(~l.length + ~l[0].n); ~l[0] = null; ~a.g(null); if (~a.n > 0) { ~a.g(null); }")
}

// find is the name of a text that is the last one but so many.
func find(x *base.Info, name string, back int) int {
	for node := x.Len() - 1; node >= 0; node-- {
		if n := x.Node(node); n.Kind == api.Var && n.Text == name {
			if back == 0 {
				return node
			}
			back--
		}
	}
	return -1
}

// The numbers of the parameters of inMain's method.
const (
	paramA = iota
	paramB
	paramC
	paramO
	paramL
	paramP
	paramI
	firstLocal
)

// P18.1: where values come from.
func TestSource(t *testing.T) {
	for value, want := range map[string][2]int{
		"a": {Alike, paramA}, "c": {Alike, paramC}, "o": {Alike, paramO}, "l": {Alike, paramL}, "p": {Alike, paramP}, "i": {Alike, paramI}, "(b)": {Alike, paramB}, "some(a)": {Never, -1}, "some(c)": {Never, -1}, "some(l!)": {Never, -1},
		"1": {Never, -1}, "1.5": {Never, -1}, "true": {Never, -1}, `"s"`: {Never, -1}, "null": {Maybe, -1}, "none": {Maybe, -1}, "this": {Never, -1}, "a.n": {Never, -1}, "a.m": {Maybe, -1}, "a.s": {Never, -1}, "a.l": {Never, -1}, "a.k": {Maybe, -1}, "l[0]": {Maybe, -1}, "this.l[0]": {Maybe, -1}, "new Main[1][0]": {Never, -1}, "l.length": {Never, -1},
		"a.g(b)": {Maybe, -1}, "a.h(b)": {Never, -1}, "new Main()": {Never, -1}, "new Main?[1]": {Never, -1}, "new Main?[]?[1]": {Never, -1}, "new Main?[]?[1][0]": {Maybe, -1}, "-i": {Never, -1}, "!p": {Never, -1}, "i + 1": {Never, -1}, "a == b": {Never, -1}, "a == null": {Never, -1},
		"cast<Main>(a)": {Never, -1}, "cast<Main?>(c)": {Maybe, -1}, "cast<Option<Main>>(c)": {Maybe, -1}, "cast<Main>(null)": {Never, -1}, "toint(1.5)": {Never, -1}, "todouble(i)": {Never, -1}, "input()": {Never, -1}, "ask(c)": {Maybe, -1}, "ask(a)": {Maybe, -1}, "a!": {Never, -1}, "o is some": {Never, -1}, "o is none": {Never, -1}, "o.val": {Never, -1}, "o!": {Never, -1},
	} {
		tried := 0
		for _, of := range []string{"int", "bool", "double", "str", "Main?", "Main?[]?", "Main[]", "Main?[]?[]?", "Option<Main>"} {
			p, f := parse.Parse(inMain(of + " x = " + value + ";"))
			if f != (api.Fault{}) {
				t.Fatalf("%s: %v", value, f)
			}
			x, _ := base.Of(p)
			if x == nil {
				continue
			}
			tried++
			for node := range x.Len() {
				n := x.Node(node)
				if n.Kind != api.Decl {
					continue
				}
				if how, slot := Source(x, n.Kids[0]); [2]int{how, slot} != want {
					t.Errorf("%s: %d %d", value, how, slot)
				}
			}
		}
		if tried == 0 {
			t.Errorf("%s fits nothing", value)
		}
	}
}

// P18.1: a name, whatever its type is, in whatever body it stands.
func TestSourceOfNames(t *testing.T) {
	x := known(t, "class Main { int main() { return 1; } int f(Main a, Main? b) { return b.f(a, b); } int g(Main? b) { Main a = b; b = a; return 1; } }")
	for node := range x.Len() {
		n := x.Node(node)
		if n.Kind != api.Var {
			continue
		}
		if how, slot := Source(x, node); how != Alike || slot != x.Slot(node) || slot < 0 {
			t.Errorf("%s: %d %d", n.Text, how, slot)
		}
	}
}

// P18.3: names in this body to which a way leads or not, names that aren't read, and other nodes.
func TestReached(t *testing.T) {
	x := known(t, inMain("b.g(a); a = c; return; b = a;"))
	f := Solve(x, 1, false)
	reached := map[int]bool{find(x, "b", 1): true, find(x, "a", 2): true, find(x, "c", 0): true}
	for node := range x.Len() {
		n := x.Node(node)
		if f.Reached(node) != reached[node] {
			t.Errorf("%d %s: %t", n.Kind, n.Text, f.Reached(node))
		}
		if f.Holds(node) == (reached[node] && n.Text != "c") || f.Known(node, paramA) == reached[node] || !f.Known(node, paramC) {
			t.Errorf("%d %s holds: %t", n.Kind, n.Text, f.Holds(node))
		}
	}
	for _, node := range []int{-1, x.Len(), math.MinInt, math.MaxInt} {
		if !f.Holds(node) || f.Reached(node) || !f.Known(node, paramA) || f.Known(node, -1) || f.Known(node, 64) {
			t.Errorf("of the node %d", node)
		}
	}
}

// P18.3: another local, where a name is read.
func TestKnown(t *testing.T) {
	x := known(t, inMain("Main d; Main? e; if (a != null) { print(b == c); } b = this; e = d; print(p); return; print(i);"))
	f := Solve(x, 1, false)
	there, behind, gone := find(x, "c", 0), find(x, "p", 0), find(x, "i", 0)
	for slot, want := range map[int][2]bool{
		paramA: {true, false}, paramB: {false, true}, paramC: {true, true}, paramO: {false, false}, paramL: {false, false}, paramP: {true, true}, paramI: {true, true}, firstLocal: {true, true}, firstLocal + 1: {false, true},
		-1: {}, 64: {}, 65: {}, 128: {}, math.MinInt: {}, math.MaxInt: {},
	} {
		if f.Known(there, slot) != want[0] || f.Known(behind, slot) != want[1] || f.Known(gone, slot) != (slot >= 0 && slot < 64) {
			t.Errorf("%d: %t %t %t", slot, f.Known(there, slot), f.Known(behind, slot), f.Known(gone, slot))
		}
	}
}

// nodesOf are the nodes of a kind.
func nodesOf(x *base.Info, kind int) []int {
	var list []int
	for node := range x.Len() {
		if x.Node(node).Kind == kind {
			list = append(list, node)
		}
	}
	return list
}

// P18.4: what is known at returns, and at the block's end.
func TestLeft(t *testing.T) {
	x := known(t, inMain("Main d; Main? e; if (a == null) { return; } if (p) { b = this; return; return; } e = this; o = none; l = this.l;"))
	f := Solve(x, 1, false)
	returns := nodesOf(x, api.Return)[1:4]
	for slot, want := range map[int][4]bool{
		paramA: {false, true, true, true}, paramB: {false, true, true, false}, paramC: {true, true, true, true}, paramO: {false, false, true, false}, paramL: {false, false, true, true}, paramP: {true, true, true, true}, firstLocal: {true, true, true, true}, firstLocal + 1: {false, false, true, true},
		-1: {}, 64: {}, 65: {}, math.MinInt: {}, math.MaxInt: {},
	} {
		for i, node := range append(returns, -1) {
			if f.Left(node, slot) != want[i] {
				t.Errorf("the local %d at %d: not %t", slot, i, want[i])
			}
		}
		if f.Left(-2, slot) != want[3] || f.Left(math.MinInt, slot) != want[3] {
			t.Errorf("the local %d at the end: not %t", slot, want[3])
		}
		for _, node := range []int{0, x.Len(), math.MaxInt, x.Bodies()[1].Node, nodesOf(x, api.Return)[0]} {
			if f.Left(node, slot) != (slot >= 0 && slot < 64) {
				t.Errorf("the local %d at %d, which is no return of this body", slot, node)
			}
		}
	}
	y := known(t, inMain("if (p) { return; } else { a = null; return; }"))
	for slot := range 7 {
		if !Solve(y, 1, false).Left(-1, slot) {
			t.Errorf("the local %d at an end to which no way leads", slot)
		}
	}
}

// P18.4: what the value of a return tells.
func TestLeftBehindValue(t *testing.T) {
	x := known(t, "class Main { int main() { return 1; } int n; Main? f(Main? a, Main? b) { if (b.n > 0) { return a!; } return a; } int g(Main? a, Main? b) { if (b == null) { return a.n; } return b.n; } }")
	returns := nodesOf(x, api.Return)[1:]
	for i, want := range [][2][2]bool{{{true, true}, {false, true}}, {{false, false}, {false, true}}, {{false, true}, {false, false}}, {{false, false}, {true, true}}} {
		body := 1 + i/2
		for slot := range 2 {
			for asks, f := range []*Facts{Solve(x, body, false), Solve(x, body, true)} {
				if f.Left(returns[i], slot) != want[slot][asks] {
					t.Errorf("the return %d, the local %d, asks %d", i, slot, asks)
				}
			}
		}
	}
}

// P18.2, P18.5: bodies that there are and aren't; the graph is gone through at least once.
func TestSolve(t *testing.T) {
	x := known(t, inMain("while (p) { while (p) { a = b; b = null; } }"))
	for body := range x.Bodies() {
		for _, asks := range []bool{false, true} {
			if f := Solve(x, body, asks); f == nil || f.Rounds() < 1 {
				t.Errorf("the body %d", body)
			}
		}
	}
	for _, body := range []int{-1, len(x.Bodies()), math.MinInt, math.MaxInt} {
		if Solve(x, body, true) != nil || Solve(x, body, false) != nil {
			t.Errorf("a body %d", body)
		}
	}
}

// P18.2, P18.3: inits, and names of other bodies.
func TestBodies(t *testing.T) {
	x := known(t, "class Main { int n; int main() { return 1; } init() { Main? a = null; print(a.n); } } class A extends Main { init(Main? a, Main b) { super(); a = b; print(a.n); } int f(Main? a) { return a.n; } }")
	for i, b := range x.Bodies() {
		f := Solve(x, i, false)
		hold := 0
		for node := range x.Len() {
			if !f.Holds(node) {
				hold++
			}
		}
		if lost := map[string]int{"Main true": 1, "A false": 1}[b.Owner+" "+strconv.FormatBool(b.Init)]; hold != lost {
			t.Errorf("%s %t: %d, not %d", b.Owner, b.Init, hold, lost)
		}
	}
}

// P2: what is found hangs on the program alone, which stays as it is.
func TestAlone(t *testing.T) {
	text := inMain("while (~a != null) { a = ^a.m; }")
	text = strings.NewReplacer("~", "", "^", "").Replace(text)
	x := known(t, text)
	f, g := Solve(x, 1, true), Solve(x, 1, true)
	Solve(x, 1, false)
	for node := range x.Len() {
		for slot := range 8 {
			if f.Holds(node) != g.Holds(node) || f.Known(node, slot) != g.Known(node, slot) || f.Left(node, slot) != g.Left(node, slot) {
				t.Errorf("%d %d", node, slot)
			}
		}
	}
	if f == g || f.Rounds() != g.Rounds() || !tree.Same(x.Tree(), known(t, text).Tree()) {
		t.Error("the program is changed")
	}
}

// The chapter's example.
func TestExample(t *testing.T) {
	x := known(t, "class Main { int main() { return 1; } void f(Main? m) { if (m == null) { return; } m.g(); } void g() { } }")
	f := Solve(x, 1, false)
	if f.Holds(find(x, "m", 1)) || !f.Holds(find(x, "m", 0)) {
		t.Error("m")
	}
}
