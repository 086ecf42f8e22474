package show

import (
	"reflect"
	"slices"
	"strings"
	"testing"
	"unsafe"

	"caulker/api"
	"caulker/lex"
	"caulker/parse"
	"caulker/tree"
)

// read is a text as a program.
func read(t *testing.T, text string) api.Tree {
	t.Helper()
	p, f := parse.Parse(text)
	if f != (api.Fault{}) {
		t.Fatalf("%v of %s", f, text)
	}
	return p
}

// dedented is a text without the blanks ahead of its first line, in each line; those stand ahead of it in its program.
func dedented(program string, s api.Span) string {
	begin := strings.LastIndex(program[:s.From], "\n") + 1
	line := program[begin:]
	far := len(line) - len(strings.TrimLeft(line, " "))
	return strings.ReplaceAll(program[s.From:s.To], "\n"+strings.Repeat(" ", far), "\n")
}

// holdRight holds a right program's text to what the document says of it.
func holdRight(t *testing.T, p api.Tree) {
	t.Helper()
	text, e := Program(p)
	if e != api.OK {
		t.Fatalf("%d of %s", e, tree.Form(p, p.Root))
	}
	if want := laid(text); text != want {
		t.Fatalf("%s\nnot\n%s", text, want)
	}
	q, f := parse.Parse(text)
	if f.Code == api.ErrLong || f.Code == api.ErrDeep {
		return
	}
	if f != (api.Fault{}) || !tree.Same(p, q) {
		t.Fatalf("%v of\n%s\n%s", f, text, tree.Form(p, p.Root))
	}
	holdBrackets(t, text, q)
	holdNodes(t, p, q, text)
}

// holdBrackets holds a text to that without any brackets around a value it is read otherwise.
func holdBrackets(t *testing.T, text string, p api.Tree) {
	t.Helper()
	tokens, _ := lex.Lex(text)
	var open []int
	for i, token := range tokens {
		switch lex.Say(text, token) {
		case "(":
			open = append(open, i)
		case ")":
			first := open[len(open)-1]
			open = open[:len(open)-1]
			ahead := lex.Say(text, tokens[first-1])
			if tokens[first-1].Kind == api.Word && ahead != "return" || ahead == ">" && text[tokens[first].From-1] == '>' {
				continue // they belong to what stands ahead of them
			}
			from, to := tokens[first].From, token.From
			less := text[:from] + " " + text[from+1:to] + " " + text[to+1:]
			if q, f := parse.Parse(less); f == (api.Fault{}) && tree.Same(p, q) {
				t.Fatalf("without brackets at %d it is the same:\n%s", from, text)
			}
		}
	}
}

// holdNodes holds the text of each node of a program to that of the same node of the program that its text is read as.
func holdNodes(t *testing.T, p, q api.Tree, text string) {
	t.Helper()
	order, other := tree.Walk(p, p.Root), tree.Walk(q, q.Root)
	for i, at := range order {
		want, wrong := dedented(text, q.Nodes[other[i]].Span), api.OK
		if kind := p.Nodes[at].Kind; kind == api.Program || kind == api.ClassOf || kind == api.Ancestor {
			want, wrong = "", api.ErrPlace
		}
		if got, e := Node(p, at); got != want || e != wrong {
			t.Fatalf("Node %d: %d\n%s\nnot\n%s", at, e, got, want)
		}
	}
	for _, at := range []int{-1 << 63, -1, len(p.Nodes), 1<<63 - 1} {
		if got, e := Node(p, at); got != "" || e != api.ErrRange {
			t.Fatalf("Node %d: %q %d", at, got, e)
		}
	}
}

// P9.1 to P9.4: programs of all kinds.
func TestRight(t *testing.T) {
	c := newChance(1)
	seen := map[int]int{}
	for i := range 1500 {
		p := c.program(i % 7)
		if e := tree.Check(p); e != api.OK || len(wrongs(p, p.Root)) > 0 {
			t.Fatalf("%d %v", e, wrongs(p, p.Root))
		}
		holdRight(t, p)
		for _, n := range p.Nodes {
			seen[n.Kind]++
		}
	}
	for kind := 1; kind < api.Kinds; kind++ {
		if seen[kind] < 50 {
			t.Errorf("%d of kind %d", seen[kind], kind)
		}
	}
}

// whole is a value, made of those that it is given, with their numbers moved.
func whole(n api.Node, of ...[]api.Node) []api.Node {
	var list []api.Node
	for _, kid := range of {
		from := len(list)
		for _, k := range kid {
			k.Kids = slices.Clone(k.Kids)
			for i := range k.Kids {
				k.Kids[i] += from
			}
			list = append(list, k)
		}
		n.Kids = append(n.Kids, len(list)-1)
	}
	return append(list, n)
}

// P9.3: each kind of value in each place of each other one: brackets stand where they must, and nowhere else.
func TestBrackets(t *testing.T) {
	x := []api.Node{{Kind: api.Var, Text: "x"}}
	plain := api.Type{Base: api.Class, Name: "A", Marks: " "}
	var all [][]api.Node
	for _, sign := range signs {
		all = append(all, whole(api.Node{Kind: api.Binary, Text: sign}, x, x))
	}
	for _, kind := range []int{api.Neg, api.Not, api.IsSome, api.IsNone, api.Guard, api.Length, api.Val, api.Some, api.Ask, api.ToInt, api.ToDouble} {
		all = append(all, whole(api.Node{Kind: kind}, x))
	}
	for _, kind := range []int{api.NullLit, api.NoneLit, api.This, api.IntLit, api.StrLit, api.Input} {
		all = append(all, whole(api.Node{Kind: kind}))
	}
	all = append(all, x, whole(api.Node{Kind: api.Get, Text: "f"}, x), whole(api.Node{Kind: api.Index}, x, x), whole(api.Node{Kind: api.Call, Text: "f"}, x, x), whole(api.Node{Kind: api.New, Type: plain}, x), whole(api.Node{Kind: api.NewArray, Type: plain}, x), whole(api.Node{Kind: api.Cast, Type: plain}, x))
	for _, outer := range all {
		n := outer[len(outer)-1]
		many := len(n.Kids)
		n.Kids = nil
		for _, a := range all {
			if many == 1 {
				holdRight(t, holding(whole(n, a)...))
			}
			for _, b := range all {
				if many == 2 {
					holdRight(t, holding(whole(n, a, b)...))
				}
			}
		}
	}
}

// P9.2, P9.3: programs, each written out.
func TestWritten(t *testing.T) {
	for text, want := range map[string]string{
		"":                              "",
		"class A{}":                     "class A {\n}\n",
		"class A{}class B extends A{}":  "class A {\n}\n\nclass B extends A {\n}\n",
		"class A{int x;A?[]y;init(){}}": "class A {\n  int x;\n  A?[] y;\n  init() {}\n}\n",
		"class A{void f(int a,Option<A[]?[]>b){{}{{return;}}}}":                                          "class A {\n  void f(int a, Option<A[]?[]> b) {\n    {}\n    {\n      {\n        return;\n      }\n    }\n  }\n}\n",
		"class A{init(){super();super(1,- 2);int x;A y=null;if(x is some){}while(!y){break;continue;}}}": "class A {\n  init() {\n    super();\n    super(1, -2);\n    int x;\n    A y = null;\n    if (x is some) {}\n    while (!y) {\n      break;\n      continue;\n    }\n  }\n}\n",
		"class A{init(){if(a){}else{b=1;}if(a){b=1;}else{}}}":                                            "class A {\n  init() {\n    if (a) {} else {\n      b = 1;\n    }\n    if (a) {\n      b = 1;\n    } else {}\n  }\n}\n",
		"class A{int f(){return 1.50+2 .length;print(\"a\\n\\\\\");}}":                                   "class A {\n  int f() {\n    return 1.50 + 2.length;\n    print(\"a\\n\\\\\");\n  }\n}\n",
		"class A{init(){(a).f(b,c)[(1)].x=(new A?[]?[2])[i]!.val;}}":                                     "class A {\n  init() {\n    a.f(b, c)[1].x = new A?[]?[2][i]!.val;\n  }\n}\n",
		"class A{init(){x=((a||b)&&c)==(d<e)is none;}}":                                                  "class A {\n  init() {\n    x = ((a || b) && c) == d < e is none;\n  }\n}\n",
		"class A{init(){x=a-(b-c)-d*(e/f)/(g%h)+(-(i))*(-(-(j)))-(-(k+l)).m;}}":                          "class A {\n  init() {\n    x = a - (b - c) - d * (e / f) / (g % h) + -i * --j - (-(k + l)).m;\n  }\n}\n",
		"class A{init(){x=(a is some)+b;y=!(a is none);z=((c<d)is some)is none;(!w)[0]=1;}}":             "class A {\n  init() {\n    x = (a is some) + b;\n    y = !(a is none);\n    z = c < d is some is none;\n    (!w)[0] = 1;\n  }\n}\n",
		"class A{init(){x=some(ask(toint(todouble(cast<int[]>(input())))));new A();}}":                   "class A {\n  init() {\n    x = some(ask(toint(todouble(cast<int[]>(input())))));\n    new A();\n  }\n}\n",
		"class A{init(){return(true);}int f(){return(none);}}":                                           "class A {\n  init() {\n    return true;\n  }\n  int f() {\n    return none;\n  }\n}\n",
	} {
		if got, e := Program(read(t, text)); got != want || e != api.OK {
			t.Errorf("%s: %d\n%s", text, e, got)
		}
		if got, e := Program(read(t, want)); got != want || e != api.OK {
			t.Errorf("%s: %d, again\n%s", text, e, got)
		}
	}
}

// The chapter's example.
func TestExample(t *testing.T) {
	text, e := Program(read(t, "class A{A? x;int f(){if((a)==null){return((1+2)*3);}else{}}}"))
	lines := strings.SplitAfter(text, "\n")
	if e != api.OK || len(lines) != 9 || lines[4] != "      return (1 + 2) * 3;\n" || lines[8] != "" {
		t.Errorf("%d\n%s", e, text)
	}
}

// P9.4: nodes, each written out.
func TestNodes(t *testing.T) {
	p := read(t, "class A extends B { A? x; int f(int a, A b) { while (a) { if (b) { c = -1; } else { d.e(); } } return (e + 1) * 2; } init() {} } class B {}")
	want := map[int]string{
		api.Field:  "A? x;",
		api.Param:  "A b",
		api.While:  "while (a) {\n  if (b) {\n    c = -1;\n  } else {\n    d.e();\n  }\n}",
		api.If:     "if (b) {\n  c = -1;\n} else {\n  d.e();\n}",
		api.Assign: "c = -1;",
		api.Neg:    "-1",
		api.Expr:   "d.e();",
		api.Call:   "d.e()",
		api.Return: "return (e + 1) * 2;",
		api.Init:   "init() {}",
		api.Block:  "{}",
		api.Method: "int f(int a, A b) {\n  while (a) {\n    if (b) {\n      c = -1;\n    } else {\n      d.e();\n    }\n  }\n  return (e + 1) * 2;\n}",
	}
	seen := map[int]string{}
	for at, n := range p.Nodes {
		got, e := Node(p, at)
		if e == api.OK {
			seen[n.Kind] = got
		} else if e != api.ErrPlace || n.Kind != api.Program && n.Kind != api.ClassOf && n.Kind != api.Ancestor || got != "" {
			t.Errorf("Node %d: %d %q", at, e, got)
		}
	}
	for kind, text := range want {
		if seen[kind] != text {
			t.Errorf("%s: %q, not %q", tree.Name(kind), seen[kind], text)
		}
	}
}

// P2: nothing that is handed in is changed or kept, and what is answered hangs on it alone.
func TestNewMemory(t *testing.T) {
	c := newChance(5)
	p := c.program(6)
	for len(p.Nodes) < 100 {
		p = c.program(6)
	}
	want := tree.Clone(p)
	text, _ := Program(p)
	again, _ := Program(p)
	for at := range p.Nodes {
		Node(p, at)
	}
	if text != again || tree.Form(p, p.Root) != tree.Form(want, want.Root) || !reflect.DeepEqual(tree.Clone(p), want) {
		t.Error("it was changed")
	}
	bytes := []byte("abc")
	q := holding(api.Node{Kind: api.StrLit, Text: unsafe.String(&bytes[0], 3)})
	name := holding(api.Node{Kind: api.Var, Text: unsafe.String(&bytes[0], 3)})
	quoted, _ := Node(q, 0)
	named, _ := Node(name, 0)
	bytes[0], bytes[1], bytes[2] = '-', '-', '-'
	if quoted != `"abc"` || named != "abc" {
		t.Errorf("%s %s is shared", quoted, named)
	}
}
