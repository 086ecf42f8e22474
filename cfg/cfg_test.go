package cfg

import (
	"math"
	"slices"
	"strings"
	"testing"

	"caulker/base"
	"caulker/parse"
	"caulker/tree"
)

// read is a program, all of whose values have types; nil, if something is wrong with it.
func read(text string) *base.Info {
	p, _ := parse.Parse(text)
	x, _ := base.Of(p)
	return x
}

// known is a program with which nothing is wrong.
func known(t *testing.T, text string) *base.Info {
	t.Helper()
	x := read(text)
	if x == nil {
		t.Fatalf("wrong: %s", text)
	}
	return x
}

// inMain is a program whose Main has a method in which these statements stand: the body 1, which has seven parameters.
func inMain(statements string) string {
	return "class Main { int n; Main? m; Main?[]? l; int main() { return 1; } int f(Main? a, Main? b, bool p, bool q, Option<Main> o, Main?[]? l, int i) { " + statements + " } Main? g(int i, Main? m) { return m; } bool has(bool b) { return b; } } class Sub extends Main { }"
}

// letters are how the kinds of nodes are told.
const letters = " JRSTFUMLE"

// say tells a node: its kind, and its local's name.
func say(x *base.Info, body int, n Node) string {
	text := letters[n.Kind : n.Kind+1]
	if n.Slot >= 0 {
		text += x.Bodies()[body].Scope.Locals()[n.Slot].Name
	}
	return text
}

// ways are all ways through a body, Next first, each up to where nothing comes behind it, or, ^, to where it was before. A + tells that it goes on by Next, a - by Else.
func ways(x *base.Info, body int) []string {
	g := Of(x, body)
	var all []string
	var walk func(i int, said []string, been []int)
	walk = func(i int, said []string, been []int) {
		n := g.Node(i)
		word := say(x, body, n)
		if slices.Contains(been, i) {
			all = append(all, strings.Join(append(said, "^"), " "))
			return
		}
		been = append(slices.Clone(been), i)
		switch {
		case n.Next < 0:
			all = append(all, strings.Join(append(said, word), " "))
		case n.Else < 0:
			walk(n.Next, append(slices.Clone(said), word), been)
		default:
			walk(n.Next, append(slices.Clone(said), word+"+"), been)
			walk(n.Else, append(slices.Clone(said), word+"-"), been)
		}
	}
	walk(g.Start(), nil, nil)
	return all
}

// leads holds the ways through these statements to those that are wanted, and all graphs to the model.
func leads(t *testing.T, statements string, want ...string) {
	t.Helper()
	x := known(t, inMain(statements))
	hold(t, x)
	if got := ways(x, 1); !slices.Equal(got, want) {
		t.Errorf("%s\n%s\nand not\n%s", statements, strings.Join(got, "\n"), strings.Join(want, "\n"))
	}
}

// P17.2: what happens in values, in the order in which they are reckoned.
func TestValues(t *testing.T) {
	for value, want := range map[string]string{
		"1": "", "null == this": "", "true": "", "input() < 2": "", "todouble(1)": "", `"a" + "b"`: "", "new Main()": "", "none": "", "null": "",
		"p": "Rp ", "!p": "Rp ", "p == q": "Rp Rq ", "-i < i * 2": "Ri Ri ", "a == b": "Ra Rb ", "a == null": "Ra ", "null != b": "Rb ", "o is some": "Ro ", "o is none": "Ro ", "!(a == null)": "Ra ", "p == (a == null)": "Rp Ra ",
		"a.n": "Ra Ua ", "a.m.n": "Ra Ua ", "a.f(b, a, p, q, o, l, i)": "Ra Ua Rb Ra Rp Rq Ro Rl Ri ", "a.g(i, b).n": "Ra Ua Ri Rb ", "a.g(b.n, a.m)": "Ra Ua Rb Ub Ra Ua ",
		"l.length": "Rl Ul ", "l[i]": "Rl Ul Ri ", "l[l.length - i]": "Rl Ul Rl Ul Ri ", "a.l[b.n].m": "Ra Ua Rb Ub ", "l[i].m.n": "Rl Ul Ri ", "a.l.length": "Ra Ua ",
		"a!": "Ra Ma ", "a!.n": "Ra Ma ", "a!!": "Ra Ma ", "a!.g(i, b!)": "Ra Ma Ri Rb Mb ", "l![i]": "Rl Ml Ri ", "l!.length": "Rl Ml ", "l[i]!": "Rl Ul Ri ", "a.m!": "Ra Ua ", "(a)!.m.m!": "Ra Ma ", "ask(a)!": "Ra ", "o!": "Ro Mo ", "(a).n": "Ra Ua ",
		"ask(a)": "Ra ", "cast<Sub>(a)": "Ra ", "cast<Sub>(a).n": "Ra ", "ask(a).m": "Ra ", "some(a)": "Ra ", "some(a!)": "Ra Ma ", "o.val": "Ro ", "o.val.n": "Ro ", "o.val!": "Ro ", "ask(o.val.m)": "Ro ",
		"new Main[i]": "Ri ", "new Main[i].length": "Ri ", "toint(todouble(i))": "Ri ", "i + a.n * b.n": "Ri Ra Ua Rb Ub ", "this.g(i, a)": "Ri Ra ", "this.has(p) == this.has(q)": "Rp Rq ", "input() + i": "Ri ", "-a.n": "Ra Ua ", "a.n == b.n": "Ra Ua Rb Ub ", "a.m == null": "Ra Ua ",
	} {
		fit := 0
		for _, of := range []string{"int", "bool", "double", "str", "Main?", "Main[]?", "Main?[]?", "Option<Main>"} {
			if read(inMain(of+" x = "+value+";")) != nil {
				fit++
				leads(t, of+" x = "+value+";", want+"Sx E")
				leads(t, of+" x; x = "+value+"; x = x;", "Sx "+want+"Sx Rx Sx E")
			}
		}
		if fit == 0 {
			t.Errorf("%s fits nothing", value)
		}
		if read(inMain("print("+value+");")) != nil {
			leads(t, "print("+value+");", want+"E")
		}
		if read(inMain("return "+value+";")) != nil {
			leads(t, "return "+value+";", want+"L")
		}
		if read(inMain(value+";")) != nil {
			leads(t, value+"; "+value+";", want+want+"E")
		}
	}
}

// P17.2: statements one by one, and what gets a value.
func TestStatements(t *testing.T) {
	leads(t, "", "E")
	leads(t, "{ } { { } }", "E")
	leads(t, "return 1;", "L")
	leads(t, "return 1; print(i); a = b; return 2; while (p) { }", "L")
	leads(t, "Main? c; c = a; Main? d = c; { c = d; int j = i; }", "Sc Ra Sc Rc Sd Rd Sc Ri Sj E")
	leads(t, "i = i + 1; p = q; a = null; o = none; o = some(b); l = new Main?[i];", "Ri Si Rq Sp Sa So Rb So Ri Sl E")
	leads(t, "a.n = i; a.m.n = 1; a!.m = b; this.m = a; a.m = a.m;", "Ra Ua Ri Ra Ua Ra Ma Rb Ra Ra Ua Ra Ua E")
	leads(t, "l[i] = a; l![i] = b; a.l[b.n] = a; l[l.length] = l[i];", "Rl Ul Ri Ra Rl Ml Ri Rb Ra Ua Rb Ub Ra Rl Ul Rl Ul Rl Ul Ri E")
	leads(t, "a = a.m; a = a!; a = a.g(i, a);", "Ra Ua Sa Ra Ma Sa Ra Ua Ri Ra Sa E")
	leads(t, "a.has(p); this.g(i, null); new Main();", "Ra Ua Rp Ri E")
}

// P17.2: an init's super, whose arguments are reckoned first.
func TestSuper(t *testing.T) {
	x := known(t, "class Main { int main() { return 1; } } class A { init(int i, A? a) { } } class B extends A { init(int j, B? b) { super(j + 1, b.f(j)); b = null; } A? f(int k) { return null; } }")
	hold(t, x)
	for i, b := range x.Bodies() {
		if got := ways(x, i); b.Init && b.Owner == "B" && !slices.Equal(got, []string{"Rj Rb Ub Rj Sb E"}) {
			t.Errorf("%q", got)
		}
	}
}

// P17.3: conditions.
func TestConditions(t *testing.T) {
	for value, want := range map[string][]string{
		"p": {"Rp F+ Ri E", "Rp F- Rq E"}, "!p": {"Rp F+ Rq E", "Rp F- Ri E"}, "!!p": {"Rp F+ Ri E", "Rp F- Rq E"}, "true": {"F+ Ri E", "F- Rq E"}, "i < 1": {"Ri F+ Ri E", "Ri F- Rq E"}, "a.has(p)": {"Ra Ua Rp F+ Ri E", "Ra Ua Rp F- Rq E"},
		"a == b": {"Ra Rb F+ Ri E", "Ra Rb F- Rq E"}, "a.m == null": {"Ra Ua F+ Ri E", "Ra Ua F- Rq E"}, "a! == null": {"Ra Ma F+ Ri E", "Ra Ma F- Rq E"}, "null != null": {"F+ Ri E", "F- Rq E"}, "this == null": {"F+ Ri E", "F- Rq E"}, "ask(a) != null": {"Ra F+ Ri E", "Ra F- Rq E"},
		"a != null": {"Ra Ta+ Ri E", "Ra Ta- Rq E"}, "null != a": {"Ra Ta+ Ri E", "Ra Ta- Rq E"}, "a == null": {"Ra Ta+ Rq E", "Ra Ta- Ri E"}, "null == (a)": {"Ra Ta+ Rq E", "Ra Ta- Ri E"}, "!(a == null)": {"Ra Ta+ Ri E", "Ra Ta- Rq E"}, "!(a != null)": {"Ra Ta+ Rq E", "Ra Ta- Ri E"},
		"o is some": {"Ro To+ Ri E", "Ro To- Rq E"}, "o is none": {"Ro To+ Rq E", "Ro To- Ri E"}, "!(o is none)": {"Ro To+ Ri E", "Ro To- Rq E"}, "o == null": {"Ro To+ Rq E", "Ro To- Ri E"}, "l != null": {"Rl Tl+ Ri E", "Rl Tl- Rq E"},
		"p && q":                          {"Rp F+ Rq F+ Ri E", "Rp F+ Rq F- Rq E", "Rp F- Rq E"},
		"p || q":                          {"Rp F+ Ri E", "Rp F- Rq F+ Ri E", "Rp F- Rq F- Rq E"},
		"!(p && q)":                       {"Rp F+ Rq F+ Rq E", "Rp F+ Rq F- Ri E", "Rp F- Ri E"},
		"!(p || !q)":                      {"Rp F+ Rq E", "Rp F- Rq F+ Ri E", "Rp F- Rq F- Rq E"},
		"a != null && p":                  {"Ra Ta+ Rp F+ Ri E", "Ra Ta+ Rp F- Rq E", "Ra Ta- Rq E"},
		"a == null || p":                  {"Ra Ta+ Rp F+ Ri E", "Ra Ta+ Rp F- Rq E", "Ra Ta- Ri E"},
		"o is none || !(b == null) && !p": {"Ro To+ Rb Tb+ Rp F+ Rq E", "Ro To+ Rb Tb+ Rp F- Ri E", "Ro To+ Rb Tb- Rq E", "Ro To- Ri E"},
		"(p && q) == (a == null)":         {"Rp F+ Rq F+ J Ra F+ Ri E", "Rp F+ Rq F+ J Ra F- Rq E", "Rp F+ Rq F- J Ra F+ Ri E", "Rp F+ Rq F- J Ra F- Rq E", "Rp F- J Ra F+ Ri E", "Rp F- J Ra F- Rq E"},
		"this.has(a == null || p)":        {"Ra Ta+ Rp F+ J F+ Ri E", "Ra Ta+ Rp F+ J F- Rq E", "Ra Ta+ Rp F- J F+ Ri E", "Ra Ta+ Rp F- J F- Rq E", "Ra Ta- J F+ Ri E", "Ra Ta- J F- Rq E"},
	} {
		leads(t, "if ("+value+") { print(i); } else { print(q); }", want...)
		var loop []string
		for _, way := range want {
			loop = append(loop, strings.Replace("J "+way, "Ri E", "Ri ^", 1))
		}
		leads(t, "while ("+value+") { print(i); } print(q);", loop...)
	}
}

// P17.3: && and || where they are values.
func TestLogic(t *testing.T) {
	for value, want := range map[string][]string{
		"p && q":                            {"Rp F+ Rq F+ J", "Rp F+ Rq F- J", "Rp F- J"},
		"p || q":                            {"Rp F+ J", "Rp F- Rq F+ J", "Rp F- Rq F- J"},
		"!(p && q)":                         {"Rp F+ Rq F+ J", "Rp F+ Rq F- J", "Rp F- J"},
		"a == null && !(null != b)":         {"Ra Ta+ J", "Ra Ta- Rb Tb+ J", "Ra Ta- Rb Tb- J"},
		"a != null && a.has(o is some)":     {"Ra Ta+ Ra Ua Ro F+ J", "Ra Ta+ Ra Ua Ro F- J", "Ra Ta- J"},
		"o is some && o.val.has(p)":         {"Ro To+ Ro Rp F+ J", "Ro To+ Ro Rp F- J", "Ro To- J"},
		"(p || q) && o is none":             {"Rp F+ Ro To+ J", "Rp F+ Ro To- J", "Rp F- Rq F+ Ro To+ J", "Rp F- Rq F+ Ro To- J", "Rp F- Rq F- J"},
		"(p || q) == p":                     {"Rp F+ J Rp", "Rp F- Rq F+ J Rp", "Rp F- Rq F- J Rp"},
		"this.has(p && q) || p == (a == b)": {"Rp F+ Rq F+ J F+ J", "Rp F+ Rq F+ J F- Rp Ra Rb F+ J", "Rp F+ Rq F+ J F- Rp Ra Rb F- J", "Rp F+ Rq F- J F+ J", "Rp F+ Rq F- J F- Rp Ra Rb F+ J", "Rp F+ Rq F- J F- Rp Ra Rb F- J", "Rp F- J F+ J", "Rp F- J F- Rp Ra Rb F+ J", "Rp F- J F- Rp Ra Rb F- J"},
	} {
		var set, gives []string
		for _, way := range want {
			set = append(set, way+" Sp Ri E")
			gives = append(gives, way+" E")
		}
		leads(t, "p = "+value+"; print(i);", set...)
		leads(t, "print("+value+");", gives...)
	}
}

// P17.2, P17.3: branches and loops.
func TestWays(t *testing.T) {
	leads(t, "if (p) { } print(i);", "Rp F+ Ri E", "Rp F- Ri E")
	leads(t, "if (a == null) { return 1; } a.g(i, b);", "Ra Ta+ Ra Ua Ri Rb E", "Ra Ta- L")
	leads(t, "if (p) { return i; } else { return 2; } print(q);", "Rp F+ Ri L", "Rp F- L")
	leads(t, "if (p) { a = b; } else { if (q) { b = a; } } a = a;", "Rp F+ Rb Sa Ra Sa E", "Rp F- Rq F+ Ra Sb Ra Sa E", "Rp F- Rq F- Ra Sa E")
	leads(t, "while (p) { } print(i);", "J Rp F+ ^", "J Rp F- Ri E")
	leads(t, "while (p) { a = b; continue; print(i); } print(q);", "J Rp F+ Rb Sa ^", "J Rp F- Rq E")
	leads(t, "while (p) { a = b; break; print(i); } print(q);", "J Rp F+ Rb Sa Rq E", "J Rp F- Rq E")
	leads(t, "while (p) { return i; } print(q);", "J Rp F+ Ri L", "J Rp F- Rq E")
	leads(t, "while (p) { if (q) { continue; } if (a != null) { break; } b = a; } print(i);", "J Rp F+ Rq F+ ^", "J Rp F+ Rq F- Ra Ta+ Ri E", "J Rp F+ Rq F- Ra Ta- Ra Sb ^", "J Rp F- Ri E")
	leads(t, "while (p) { while (q) { if (a == b) { break; } else { continue; } } if (i > 0) { break; } } a = b;", "J Rp F+ J Rq F+ Ra Rb F+ Ri F+ Rb Sa E", "J Rp F+ J Rq F+ Ra Rb F+ Ri F- ^", "J Rp F+ J Rq F+ Ra Rb F- ^", "J Rp F+ J Rq F- Ri F+ Rb Sa E", "J Rp F+ J Rq F- Ri F- ^", "J Rp F- Rb Sa E")
	leads(t, "while (p) { while (q) { break; } break; }", "J Rp F+ J Rq F+ E", "J Rp F+ J Rq F- E", "J Rp F- E")
	leads(t, "print(i); while (p && a != null) { a = a.m; }", "Ri J Rp F+ Ra Ta+ Ra Ua Sa ^", "Ri J Rp F+ Ra Ta- E", "Ri J Rp F- E")
	leads(t, "while (true) { if (p) { while (q) { continue; } } else { break; } }", "J F+ Rp F+ J Rq F+ ^", "J F+ Rp F+ J Rq F- ^", "J F+ Rp F- E", "J F- E")
}

// said are all nodes of a body's graph, each with the text of the program's node that it is At, and, behind it, of those that come then.
func said(x *base.Info, text string, body int) []string {
	g := Of(x, body)
	word := func(i int) string {
		if i < 0 {
			return ""
		}
		n := g.Node(i)
		at := "-"
		if n.At >= 0 {
			p := x.Node(n.At)
			at = text[p.From:p.To]
		}
		if n.Kind == End {
			at = "all"
		}
		return say(x, body, n) + " " + at
	}
	var all []string
	for i := range g.Len() {
		line := word(i)
		for _, next := range []int{g.Node(i).Next, g.Node(i).Else} {
			line += " > " + word(next)
		}
		all = append(all, line)
	}
	slices.Sort(all)
	return all
}

// P17.1 to P17.3: where each node is At, and what comes then; also where no way leads.
func TestAt(t *testing.T) {
	text := inMain("Main? c; c = a.m; while (null != c) { if (!p) { return 1; a = null; } break; print(l![i].n); } p = o is some || p;")
	want := []string{
		"Sc - > Ra a > ", "Ra a > Ua a > ", "Ua a > Sc a.m > ", "Sc a.m > J while (null != c) { if (!p) { return 1; a = null; } break; print(l![i].n); } > ",
		"J while (null != c) { if (!p) { return 1; a = null; } break; print(l![i].n); } > Rc c > ", "Rc c > Tc c > ", "Tc c > Rp p > Ro o", "Rp p > F p > ", "F p > Ro o > L return 1;", "L return 1; >  > ", "Sa null > Ro o > ",
		"Rl l > Ml l > ", "Ml l > Ri i > ", "Ri i > J while (null != c) { if (!p) { return 1; a = null; } break; print(l![i].n); } > ",
		"Ro o > To o > ", "To o > J o is some || p > Rp p", "Rp p > F p > ", "F p > J o is some || p > J o is some || p", "J o is some || p > Sp o is some || p > ", "Sp o is some || p > E all > ", "E all >  > ",
	}
	x := known(t, text)
	hold(t, x)
	slices.Sort(want)
	if got := said(x, text, 1); !slices.Equal(got, want) {
		t.Errorf("%s", strings.Join(got, "\n"))
	}
	if g := Of(x, 1); g.Node(g.End()).At != x.Bodies()[1].Node || g.Node(g.End()).Kind != End {
		t.Error("the end")
	}
}

// P17.3: there are nodes of what no way leads to.
func TestUnreached(t *testing.T) {
	for statements, want := range map[string]int{
		"return 1; print(i);": 3, "return 1; return 2; return 3;": 4, "while (p) { break; a = b; }": 6, "while (p) { continue; a.has(q); }": 7, "if (p) { return 1; } else { return 2; } while (q) { if (o is some) { } }": 10, "return 1; p = p && q;": 8,
	} {
		x := known(t, inMain(statements))
		hold(t, x)
		if g := Of(x, 1); g.Len() != want {
			t.Errorf("%s: %d, not %d", statements, g.Len(), want)
		}
	}
}

// P17.4: what comes behind a node, each once; what a way leads to, and in which order.
func TestThen(t *testing.T) {
	x := known(t, inMain("if (p) { } while (q) { print(i); break; a = b; } return 1; l = null;"))
	g := Of(x, 1)
	reached := g.Reached()
	for i := range g.Len() {
		n := g.Node(i)
		var want []int
		switch n.Kind {
		case Fork:
			want = []int{n.Next, n.Else}
			if x.Node(n.At).Text == "p" {
				want = []int{n.Next}
				if n.Next != n.Else {
					t.Error("an if without anything in it")
				}
			}
		case Leave, End:
		default:
			want = []int{n.Next}
		}
		if !slices.Equal(g.Then(i), want) {
			t.Errorf("behind %d: %v", n.Kind, g.Then(i))
		}
		if there := n.Kind != End && n.Kind != Set && !(n.Kind == Read && x.Node(n.At).Text == "b"); reached[i] != there {
			t.Errorf("%s: %t", say(x, 1, n), reached[i])
		}
	}
	var order string
	for _, i := range g.Order() {
		order += letters[g.Node(i).Kind : g.Node(i).Kind+1]
	}
	if order != "RFJRFRL" {
		t.Error(order)
	}
}

// P17.5: values that hold a local against null.
func TestHeld(t *testing.T) {
	for value, want := range map[string]string{
		"a == null": "a", "null == a": "a", "a != null": "a", "null != a": "a", "(a) == (null)": "a", "l == null": "l", "o != null": "o",
		"null == null": "", "a == b": "", "a! == null": "", "this == null": "", "a.m == null": "", "null != l[i]": "", "ask(a) == null": "", "p == q": "", "i == 1": "", "a == null && b == null": "", "!(a == null)": "", "o is some": "", "i < i": "", "i + i": "", "cast<Main>(a) == null": "", "o.val == null": "",
	} {
		x := known(t, inMain("print("+value+");"))
		hold(t, x)
		method := x.Node(x.Bodies()[1].Node)
		block := x.Node(method.Kids[len(method.Kids)-1])
		node := x.Node(block.Kids[0]).Kids[0]
		got := ""
		if local := Held(x, node); local >= 0 {
			got = x.Node(local).Text
		}
		if got != want {
			t.Errorf("%s: %q", value, got)
		}
	}
	x := known(t, inMain(""))
	for _, node := range []int{-1, x.Len(), math.MinInt, math.MaxInt, 0} {
		if Held(x, node) != -1 {
			t.Errorf("of the node %d", node)
		}
	}
}

// P17.1: bodies that there aren't.
func TestNoBody(t *testing.T) {
	x := known(t, inMain(""))
	for i := range x.Bodies() {
		if Of(x, i) == nil {
			t.Errorf("no body %d", i)
		}
	}
	for _, body := range []int{-1, len(x.Bodies()), math.MinInt, math.MaxInt} {
		if Of(x, body) != nil {
			t.Errorf("a body %d", body)
		}
	}
}

// P1: nodes that there aren't.
func TestNoNode(t *testing.T) {
	g := Of(known(t, inMain("while (p) { a = b; }")), 1)
	for _, i := range []int{-1, g.Len(), math.MinInt, math.MaxInt} {
		if g.Node(i) != (Node{}) || g.Then(i) != nil {
			t.Errorf("a node %d", i)
		}
	}
}

// P2: what is answered is new, and the program as it was.
func TestAlone(t *testing.T) {
	text := inMain("while (p && a != null) { a = b; } return i;")
	x := known(t, text)
	g, h := Of(x, 1), Of(x, 1)
	for i := range g.Len() {
		clear(g.Then(i))
	}
	clear(g.Order())
	clear(g.Reached())
	if !slices.Equal(g.Order(), h.Order()) || !slices.Equal(g.Reached(), h.Reached()) {
		t.Error("what was answered is kept")
	}
	for i := range g.Len() {
		if g.Node(i) != h.Node(i) || !slices.Equal(g.Then(i), h.Then(i)) {
			t.Errorf("another node %d", i)
		}
	}
	if !tree.Same(x.Tree(), known(t, text).Tree()) {
		t.Error("the program is changed")
	}
}

// The chapter's example.
func TestExample(t *testing.T) {
	x := known(t, "class Main { int main() { Main m = null; if (m != null) { return m.main(); } return 1; } }")
	if got := ways(x, 0); !slices.Equal(got, []string{"Sm Rm Tm+ Rm Um L", "Sm Rm Tm- L"}) || Of(x, 0).Len() != 8 {
		t.Errorf("%q", got)
	}
}
