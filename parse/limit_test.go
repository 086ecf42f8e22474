package parse

import (
	"slices"
	"strings"
	"testing"

	"caulker/api"
)

// times is a text so many times.
func times(n int, s string) string { return strings.Repeat(s, n) }

// P8.2: how deep blocks, values and signs ahead may stand in one another: of what stands `open` and `close` so many times around `in`, at most. If there is one more, the first token of what is too deep is told: that behind the `@` of `in`, or of the last one's `open`.
func TestDeep(t *testing.T) {
	for _, x := range []struct {
		ahead, open, in, close, behind string
		most                           int
	}{
		{"x = ", "(", "@a", ")", ";", 58},
		{"", "(", "@a.f()", ")", ";", 58},
		{"", "(", "@a", ")", " = b;", 58},
		{"a[1].f(2); x = ", "(", "@a", ")", ";", 58},
		{"x = ", "a[", "@a", "]", ";", 58},
		{"x = ", "a[", "a[@1]", "]", ";", 57},
		{"x = ", "a.f(", "@a", ")", ";", 58},
		{"x = ", "a.f(@b, 1, ", "a", ", c)", ";", 58},
		{"x = ", "new A(", "@a", ")", ";", 58},
		{"x = ", "new A(", "", ")", ";", 59},
		{"x = ", "new A[", "@a", "]", ";", 58},
		{"x = ", "new int[][", "@a", "]", ";", 58},
		{"x = ", "some(", "@a", ")", ";", 58},
		{"x = ", "ask(", "@a", ")", ";", 58},
		{"x = ", "toint(", "@1", ")", ";", 58},
		{"x = ", "todouble(", "@1.5", ")", ";", 58},
		{"x = ", "cast<Option<A[]>>(", "@\"s\"", ")", ";", 58},
		{"x = ", "1 + (", "@a", ") * 2", ";", 58},
		{"x = ", "(", "@a", ").b!", ";", 58},
		{"x = ", "(", "@none", ") is some", ";", 58},
		{"x = ", "@-", "a", "", ";", 58},
		{"x = ", "!", "a.b[@c]", "", ";", 57},
		{"x = 1 + ", "@-", "a", " + b", ";", 58},
		{"x = ", "@-(", "a", ")", ";", 29},
		{"x = -a.f(", "@-(", "a", ")", ").f();", 28},
		{"x = -", "-(", "@a", ")", ";", 28},
		{"int x = ", "(", "@this", ")", ";", 58},
		{"return ", "(", "@true", ")", ";", 58},
		{"print(", "(", "@input()", ")", ");", 58},
		{"super(a, ", "(", "@new A()", ")", ");", 58},
		{"if (", "(", "@null", ")", ") {}", 58},
		{"while (", "(", "@some1", ")", ") {}", 58},
		{"if (a) {} else {} {} while (b) {} x = ", "(", "@1", ")", ";", 58},
		{"", "@{", "", "}", "", 59},
		{"", "{ ", "@{}", "}", "", 58},
		{"", "{", "@a = 1;", "}", "", 58},
		{"", "{", "int a = @1;", "}", "", 58},
		{"", "@{", "int a; break; continue; return;", "}", "", 59},
		{"", "{", "return @a;", "}", "", 58},
		{"", "{", "print(@a);", "}", "", 58},
		{"", "{", "super(@a);", "}", "", 58},
		{"", "@{", "super();", "}", "", 59},
		{"", "{", "@new A();", "}", "", 58},
		{"", "{", "if (@a) {}", "}", "", 58},
		{"", "while (@a) {", "", "}", "", 59},
		{"", "while (a) {", "b.c[@1] = 1;", "}", "", 57},
		{"", "while (a) {", "@b.c = 1;", "}", "", 58},
		{"", "if (@a) {", "return;", "}", "", 59},
		{"", "if (a) {} else {", "int x; int y = @1;", "}", "", 58},
		{"", "{ @x = 1; {} ", "print(a);", " a.f(); }", "", 58},
	} {
		text := func(n int) string {
			open, in := strings.Replace(x.open, "@", "", 1), strings.Replace(x.in, "@", "", 1)
			return inStat(x.ahead + times(n, open) + in + times(n, x.close) + x.behind)
		}
		held(t, api.OK, text(x.most))
		held(t, api.OK, text(x.most-1))
		if strings.Contains(x.open, "@") {
			open := strings.Replace(x.open, "@", "", 1)
			held(t, api.ErrDeep, inStat(x.ahead+times(x.most, open)+x.open+x.in+times(x.most+1, x.close)+x.behind))
		} else if strings.Contains(x.in, "@") {
			held(t, api.ErrDeep, inStat(x.ahead+times(x.most+1, x.open)+x.in+times(x.most+1, x.close)+x.behind))
		}
		for _, n := range []int{x.most + 2, 100, 1000} {
			if _, f := Parse(text(n)); x.in != "" && f.Code != api.ErrDeep {
				t.Errorf("%d times %s: %v", n, x.open, f)
			}
		}
	}
}

// P8.2: what isn't one in the other, however many there are.
func TestNotDeep(t *testing.T) {
	for _, s := range []string{
		"x = " + times(3000, "a + ") + "b;", "x = " + times(500, "a || b && c == d < e + f * ") + "g;", "x = a" + times(3000, ".b") + ";", "x = a" + times(5000, "!") + ";", "x = a" + times(1000, "[1]") + ";", "a" + times(1000, ".f(1, -2)") + ";",
		times(200, "{}"), times(200, "if (a) {} else {}"), times(200, "x = ((((-(a)))));"), "x = " + times(200, "((((a)))) + -") + "b;", "x = " + times(200, "-a + !b * ") + "c;", "x = a" + times(500, " is some == b") + ";",
		times(50, "{") + times(50, "}") + times(50, "{") + times(50, "}"),
		"x = " + times(58, "(") + "a" + times(58, ")") + " + " + times(58, "-") + "b * " + times(57, "a.f(") + "(c), (d)" + times(57, ")") + ";",
		"x = -(" + times(56, "(") + "a + b" + times(56, ")") + ") + " + times(58, "(") + "a" + times(58, ")") + ";",
		"while (" + times(58, "(") + "a" + times(58, ")") + ") {" + times(57, "{") + "x = a;" + times(57, "}") + "}",
	} {
		held(t, api.OK, inStat(s))
	}
	held(t, api.OK, "class A { "+times(32, "Option<A[][][][]> f(int a, int b) {{{}}} init() {} ")+"}")
}

// P8.2: a wrong token is told ahead of that there is too much.
func TestWrongToken(t *testing.T) {
	deep := "x = " + times(59, "(")
	for _, s := range []string{deep + "@)", deep + "@;", deep + "@", deep + "@+ a", deep + "@if", times(59, "{") + "@)", times(59, "{") + "@void", times(59, "{") + "return @)", times(59, "{") + "print(@;", "x = " + times(57, "-") + "(@)"} {
		held(t, api.ErrToken, inStat(s))
	}
	for _, s := range []string{deep + "@a b", deep + "@1 if", deep + "@99999999999999999999", times(59, "{") + "@1;", times(59, "{") + "@a.f() b", times(59, "{") + "if (@a) if", deep + "@-", deep + "@new int()", deep + "@(", deep + "@cast<int?>(a)"} {
		held(t, api.ErrDeep, inStat(s))
	}
}

// list is a text so many times, with that between.
func list(n int, s, between string) string {
	return strings.Join(slices.Repeat([]string{s}, n), between)
}

// P8.2: how many classes, members, params and args there may be.
func TestLists(t *testing.T) {
	for _, x := range []struct {
		ahead, each, between, behind string
		most                         int
		wrong                        string // what may not come in place of one
	}{
		{"", "class A {}", "\n", "", 64, "@x"},
		{"", "class A { int x; init() {} }", " ", " ", 64, "@{}"},
		{"class A {", "int x;", " ", "}", 64, "@;"},
		{"class A {", "Option<A> x;", " ", "}", 64, "@if"},
		{"class A {", "init() {}", " ", "}", 64, "@("},
		{"class A {", "void f() {}", " ", "}", 64, "@class"},
		{"class A {", "B f(int x, int y) {} B x;", " ", "}", 32, "@1"},
		{"class A extends B {", "int x;", " ", "}", 63, "@="},
		{"class A extends B {", "init(int a) {}", " ", "}", 63, "@{"},
		{"class A { void f(", "int x", ", ", ") {} }", 64, "@,"},
		{"class A extends B { A[] f(", "Option<A?[]> x", ",", ") {} }", 64, "@)"},
		{"class A { init(", "B x", ",", ") {} }", 64, "@void x"},
		{"class A { init() { a.f(", "b", ", ", "); } }", 64, "@)"},
		{"class A { init() { a.f(", "-(b)", ", ", "); } }", 64, "@,"},
		{"class A { init() { new A(", "1", ", ", "); } }", 64, "@+"},
		{"class A { init() { super(", "a.f(b, c)", ", ", "); } }", 64, "@;"},
		{"class A { init() { x = a.f(1)[new B(", "\"\"", ", ", ").c]; } }", 64, "@is"},
	} {
		held(t, api.OK, x.ahead+list(x.most, x.each, x.between)+x.behind)
		held(t, api.ErrLong, x.ahead+list(x.most, x.each, x.between)+x.between+"@"+x.each+x.behind)
		held(t, api.ErrLong, x.ahead+list(x.most, x.each, x.between)+x.between+"@"+list(100, x.each, x.between)+x.behind)
		held(t, api.ErrLong, x.ahead+list(x.most, x.each, x.between)+x.between+"@"+x.each+" else")
		held(t, api.ErrToken, x.ahead+list(x.most, x.each, x.between)+x.between+x.wrong)
	}
	held(t, api.OK, "class A { void f("+list(64, "int x", ",")+") { a.f("+list(64, "b.g("+list(64, "c", ",")+")", ",")+"); "+times(63, "int y; ")+"} }")
	held(t, api.OK, inStat(times(500, "int x; ")))
	held(t, api.ErrToken, "class A { void f("+list(64, "int x", ",")+" @int y) {} }")
	held(t, api.ErrToken, inStat("a.f("+list(64, "b", ",")+" @c);"))
	held(t, api.ErrLong, "class A { "+times(64, "int x; ")+"@void y; }")
	held(t, api.ErrLong, times(64, "class A {} ")+"@class if")
}

// P8.2: how many arrays a type may have.
func TestDims(t *testing.T) {
	for _, of := range []string{"class A { # x; }", "class A { # f() {} }", "class A { void f(# x) {} }", inStat("# x;"), inValue("cast<#>(a)"), inValue("cast<Option<#>>(a)"), "class A { Option<#> x; }", inValue("new #[1]")} {
		for _, base := range []string{"int", "A", "A?", "str"} {
			held(t, api.OK, strings.Replace(of, "#", base+"[][][][]", 1))
			held(t, api.OK, strings.Replace(of, "#", base+"[]?[]?[] [ ]", 1))
			held(t, api.ErrLong, strings.Replace(of, "#", base+"[][][][]@[]", 1))
			held(t, api.ErrLong, strings.Replace(of, "#", base+" [ ]?[]?[][]?@[ ]?[] 1", 1))
			if !strings.Contains(of, "new") {
				held(t, api.ErrToken, strings.Replace(of, "#", base+"[][][][][@1]", 1))
			}
		}
	}
	held(t, api.OK, inValue("new A[][][][][1][2][3]"))
	held(t, api.ErrLong, inValue("new A[][][][]@[](1)"))
	held(t, api.ErrLong, inValue("new A[][][][]@[][1]"))
	held(t, api.ErrForm, inValue("new @A[][][][](1)"))
}

// filled is a text with a statement behind so many nodes more than without them, all of which stand at one byte.
func filled(n int, behind string) string {
	return "class A extends B { int y; void f(int z) { x = a" + times(n, "!") + "; " + behind + " } }"
}

// P8.2: how many nodes there may be: whichever node is one too many is told where it begins. Which one that is, tells the same program without the fill.
func TestManyNodes(t *testing.T) {
	const behind = "int i = 1 + -2.5; if (a is some) { return; } else { break; } while (!b) { continue; } (c).d[e.length] = f.val; (g.h(1, true, null)).i(this, none); super(\"s\"); print(input()); new A(new B[3]); { x = cast<A>(some(ask(toint(todouble(v))))); } (a) = b;"
	p, f := Parse(filled(0, behind))
	if f != (api.Fault{}) {
		t.Fatal(f)
	}
	first := slices.IndexFunc(p.Nodes, func(n api.Node) bool { return n.Kind == api.Assign })
	shift := p.Nodes[first].To - 1
	for last := first; last < len(p.Nodes); last++ {
		n := 8192 - last // so many more make this node one too many
		want := p.Nodes[last].From
		if want >= shift {
			want += n
		}
		if got, f := Parse(filled(n, behind)); f != (api.Fault{Code: api.ErrLong, At: want}) || len(got.Nodes) != 0 {
			t.Errorf("node %d of kind %d: %v, not %d", last, p.Nodes[last].Kind, f, want)
		}
	}
	full := 8192 - len(p.Nodes)
	if got, f := Parse(filled(full, behind)); f != (api.Fault{}) || len(got.Nodes) != 8192 {
		t.Errorf("as many as there may be: %v, %d", f, len(got.Nodes))
	}
	if _, f := Parse(filled(full+1, behind)); f != (api.Fault{Code: api.ErrLong, At: 0}) {
		t.Errorf("one more: %v", f)
	}
	if _, f := Parse("class Z {} " + filled(full, behind)); f != (api.Fault{Code: api.ErrLong, At: 0}) {
		t.Errorf("a class more: %v", f)
	}
	text := filled(full+1, behind)
	if _, f := Parse(text + " class B extends A {}"); f != (api.Fault{Code: api.ErrLong, At: len(text + " class B ")}) {
		t.Errorf("an ancestor's name more: %v", f)
	}
}

// P8.2: that there are too many nodes is told ahead of what else is wrong with what would be one too many.
func TestManyNodesFirst(t *testing.T) {
	p, _ := Parse(filled(0, ""))
	made := slices.IndexFunc(p.Nodes, func(n api.Node) bool { return n.Kind == api.Assign }) + 1
	for _, x := range []struct {
		behind string
		more   int // nodes that are made ahead of what is wrong
		code   api.Errno
	}{
		{"x = @01;", 1, api.ErrForm},
		{"x = @99999999999999999999;", 1, api.ErrRange},
		{"x = -(@1.012345678901234567);", 1, api.ErrLong},
		{"@1;", 1, api.ErrPlace},
		{"@a.b;", 2, api.ErrPlace},
	} {
		full := 8192 - made - x.more
		held(t, x.code, filled(0, x.behind))
		held(t, x.code, filled(full-1, x.behind))
		held(t, api.ErrLong, filled(full, x.behind))
	}
}
