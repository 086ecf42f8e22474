package parse

import (
	"math"
	"reflect"
	"slices"
	"strings"
	"testing"
	"unsafe"

	"caulker/api"
	"caulker/tree"
)

// standing are the texts of a program's nodes, as they were made.
func standing(t *testing.T, text string) (api.Tree, []string) {
	t.Helper()
	p, f := Parse(text)
	if f != (api.Fault{}) {
		t.Fatalf("%v of %s", f, text)
	}
	var list []string
	for _, n := range p.Nodes {
		list = append(list, tree.Name(n.Kind)+": "+text[n.From:n.To])
	}
	return p, list
}

// P8.6: nodes stand from their first token to their last one; brackets around a first value are within what is made of it, not within that.
func TestStanding(t *testing.T) {
	for _, x := range []struct{ text, want string }{
		{"x = ((a)) + (b);", "var: x|var: a|var: b|binary: ((a)) + (b)|assign: x = ((a)) + (b);"},
		{"(x) = (a).b;", "var: x|var: a|get: (a).b|assign: (x) = (a).b;"},
		{"x = ((a + b) * c).d[(e)]!;", "var: x|var: a|var: b|binary: a + b|var: c|binary: (a + b) * c|get: ((a + b) * c).d|var: e|index: ((a + b) * c).d[(e)]|guard: ((a + b) * c).d[(e)]!|assign: x = ((a + b) * c).d[(e)]!;"},
		{"x = -(-(a)).b;", "var: x|var: a|neg: -(a)|get: (-(a)).b|neg: -(-(a)).b|assign: x = -(-(a)).b;"},
		{"x = (a) is some == !(b);", "var: x|var: a|issome: (a) is some|var: b|not: !(b)|binary: (a) is some == !(b)|assign: x = (a) is some == !(b);"},
		{"(a.f((b), c))  ;  ", "var: a|var: b|var: c|call: a.f((b), c)|expr: (a.f((b), c))  ;"},
		{"(new A ( ) ) ;", "new: new A ( )|expr: (new A ( ) ) ;"},
		{"return // c\n ( a.val ) ; // d\n", "var: a|val: a.val|return: return // c\n ( a.val ) ;"},
		{"if ((a)) {} // b\n else { } x = 1;", "var: a|block: {}|block: { }|if: if ((a)) {} // b\n else { }|var: x|int: 1|assign: x = 1;"},
		{"while ( a.length ) { break ; }", "var: a|length: a.length|break: break ;|block: { break ; }|while: while ( a.length ) { break ; }"},
		{"A ? [ ] b = new A? [ (1) ] ;", "int: 1|array: new A? [ (1) ]|decl: A ? [ ] b = new A? [ (1) ] ;"},
		{"int x ;", "decl: int x ;"},
		{"print ( some ( (a) ) ) ;", "var: a|some: some ( (a) )|print: print ( some ( (a) ) ) ;"},
		{"super ( ) ; continue ;", "super: super ( ) ;|continue: continue ;"},
		{"x = cast < A > ( input ( ) ) ;", "var: x|input: input ( )|cast: cast < A > ( input ( ) )|assign: x = cast < A > ( input ( ) ) ;"},
		{"x = (1.5) - (\"s\\n\") ;", "var: x|double: 1.5|str: \"s\\n\"|binary: (1.5) - (\"s\\n\")|assign: x = (1.5) - (\"s\\n\") ;"},
		{"x = a - b - c;", "var: x|var: a|var: b|binary: a - b|var: c|binary: a - b - c|assign: x = a - b - c;"},
		{"{ { } }", "block: { }|block: { { } }"},
	} {
		_, list := standing(t, inStat(x.text))
		got := strings.Join(list[:len(list)-4], "|")
		if got != x.want {
			t.Errorf("%s, not %s", got, x.want)
		}
	}
	_, list := standing(t, " // a\nclass A extends // b\n B { A ? x ; init ( int a , Option < A > b ) { } void f ( ) { } } class C{} // c\n")
	want := []string{"extends: extends // b\n B", "field: A ? x ;", "param: int a", "param: Option < A > b", "block: { }", "init: init ( int a , Option < A > b ) { }", "block: { }", "method: void f ( ) { }"}
	if !slices.Equal(list[:8], want) || len(list) != 11 || !strings.HasPrefix(list[8], "class: class A ext") || list[9] != "class: class C{}" || !strings.HasPrefix(list[10], "program: class A") || !strings.HasSuffix(list[10], "class C{}") {
		t.Errorf("%q", list)
	}
}

// P8.6: where types and their layers stand.
func TestTypesStanding(t *testing.T) {
	for _, x := range []struct{ text, want, ends string }{
		{"class A { int x; }", "int", "int"},
		{"class A { int [ ] x; }", "int [ ]", "int|int [ ]"},
		{"class A { A ? [] ? [ ]x; }", "A ? [] ? [ ]", "A|A ? []|A ? [] ? [ ]"},
		{"class A { Option < A > x; }", "Option < A >", "Option < A"},
		{"class A { Option<A?[ ][] > x; }", "Option<A?[ ][] >", "Option<A|Option<A?[ ]|Option<A?[ ][]"},
		{"class A { void f() {} }", "void", "void"},
		{"class A { A?f() {} }", "A?", "A"},
		{"class A { void f(int a, B?b) {} }", "int|B?|void", "int|B|void"},
		{inStat("B? b;"), "B?|void", "B|void"},
		{inStat("new B ();"), "B|void", "B|void"},
		{inValue("new B? [] [ 1 ]"), "B? []|void", "B|B? []|void"},
		{inValue("cast < Option< B > > (a)"), "Option< B >|void", "Option< B|void"},
		{"// c\nclass A { str\n[]//d\n? x; }", "str\n[]//d\n?", "str|str\n[]"},
	} {
		p, _ := standing(t, x.text)
		var where, ends []string
		for _, n := range p.Nodes {
			if n.Type.Base == api.NoType {
				if n.Where != (api.Span{}) || len(n.Ends) != 0 {
					t.Errorf("%s: %v", x.text, n)
				}
				continue
			}
			where = append(where, x.text[n.Where.From:n.Where.To])
			for _, end := range n.Ends {
				ends = append(ends, x.text[n.Where.From:end])
			}
		}
		if got := strings.Join(where, "|"); got != x.want {
			t.Errorf("%q, not %q, of %s", got, x.want, x.text)
		}
		if got := strings.Join(ends, "|"); got != x.ends {
			t.Errorf("%q, not %q, of %s", got, x.ends, x.text)
		}
	}
}

// P8.1, P8.3: a program without classes is one.
func TestEmptyPrograms(t *testing.T) {
	for _, text := range []string{"", " ", "// class", "\n\t\r // a\n"} {
		p, f := Parse(text)
		if f != (api.Fault{}) || !reflect.DeepEqual(p, api.Tree{Nodes: []api.Node{{Kind: api.Program}}}) {
			t.Errorf("%q: %v %v", text, p, f)
		}
	}
}

// valueForm is the form of a value.
func valueForm(t *testing.T, value string) string {
	t.Helper()
	p, f := Parse(inValue(value))
	if f != (api.Fault{}) {
		t.Errorf("%v of %s", f, value)
		return ""
	}
	i := slices.IndexFunc(p.Nodes, func(n api.Node) bool { return n.Kind == api.Assign })
	return tree.Form(p, p.Nodes[i].Kids[1])
}

// P8.5: how signs bind: each pair of signs between values.
func TestSigns(t *testing.T) {
	close := map[string]int{"||": 1, "&&": 2, "==": 3, "!=": 3, "<": 4, "<=": 4, ">": 4, ">=": 4, "+": 5, "-": 5, "*": 6, "/": 6, "%": 6}
	for first, f := range close {
		for second, s := range close {
			want := `(binary "` + second + `" (binary "` + first + `" (var "a") (var "b")) (var "c"))`
			if s > f {
				want = `(binary "` + first + `" (var "a") (binary "` + second + `" (var "b") (var "c")))`
			}
			if got := valueForm(t, "a "+first+" b "+second+" c"); got != want {
				t.Errorf("%s, not %s", got, want)
			}
			want = `(binary "` + first + `" (var "a") (binary "` + second + `" (var "b") (var "c")))`
			if got := valueForm(t, "a"+first+"(b"+second+"c)"); got != want {
				t.Errorf("%s, not %s", got, want)
			}
		}
		want := `(issome (binary "` + first + `" (var "a") (var "b")))`
		if f < 4 {
			want = `(binary "` + first + `" (var "a") (issome (var "b")))`
		}
		if got := valueForm(t, "a "+first+" b is some"); got != want {
			t.Errorf("%s, not %s", got, want)
		}
		if f <= 4 {
			want := `(binary "` + first + `" (isnone (var "a")) (var "b"))`
			if got := valueForm(t, "a is none "+first+" b"); got != want {
				t.Errorf("%s, not %s", got, want)
			}
		}
	}
}

// P8.5: values of each kind.
func TestValues(t *testing.T) {
	for _, x := range []struct{ text, want string }{
		{"-a.b", `(neg (get "b" (var "a")))`},
		{"!a!", `(not (guard (var "a")))`},
		{"!-!a", `(not (neg (not (var "a"))))`},
		{"- -1", `(neg (neg (int 1)))`},
		{"--1", `(neg (neg (int 1)))`},
		{"-a * -b", `(binary "*" (neg (var "a")) (neg (var "b")))`},
		{"(-a).b", `(get "b" (neg (var "a")))`},
		{"a - -b", `(binary "-" (var "a") (neg (var "b")))`},
		{"a!!=b", `(binary "!=" (guard (var "a")) (var "b"))`},
		{"a!!", `(guard (guard (var "a")))`},
		{"a != !b", `(binary "!=" (var "a") (not (var "b")))`},
		{"!a is none == b", `(binary "==" (isnone (not (var "a"))) (var "b"))`},
		{"a is some is none", `(isnone (issome (var "a")))`},
		{"(a is some) + b", `(binary "+" (issome (var "a")) (var "b"))`},
		{"a is some && b is none || c", `(binary "||" (binary "&&" (issome (var "a")) (isnone (var "b"))) (var "c"))`},
		{"a < b > c", `(binary ">" (binary "<" (var "a") (var "b")) (var "c"))`},
		{"a.length.val.c", `(get "c" (val (length (var "a"))))`},
		{"a.f()", `(call "f" (var "a"))`},
		{"a.f(b, -c)[d].g(1)", `(call "g" (index (call "f" (var "a") (var "b") (neg (var "c"))) (var "d")) (int 1))`},
		{"new A().b", `(get "b" (new A))`},
		{"new A(1, 2)!", `(guard (new A (int 1) (int 2)))`},
		{"new A[2][3]", `(index (array A (int 2)) (int 3))`},
		{"new A[][2][3]", `(index (array A[] (int 2)) (int 3))`},
		{"new int[a].length", `(length (array int (var "a")))`},
		{"new A[]?[]?[2]", `(array A[]?[]? (int 2))`},
		{"cast<A[]?>(a).length", `(length (cast A[]? (var "a")))`},
		{"cast<Option<A[]>>(none)", `(cast Option<A[]> (none))`},
		{"cast<int>(1 + 2)", `(cast int (binary "+" (int 1) (int 2)))`},
		{"some(a).val", `(val (some (var "a")))`},
		{"ask(a == null)", `(ask (binary "==" (var "a") (null)))`},
		{"toint(1.5) + todouble(2)", `(binary "+" (toint (double "1.5")) (todouble (int 2)))`},
		{"input() % 2", `(binary "%" (input) (int 2))`},
		{"this.a", `(get "a" (this))`},
		{"true == false", `(binary "==" (bool 1) (bool 0))`},
		{"null", `(null)`},
		{"none", `(none)`},
		{"some1", `(var "some1")`},
		{"((a))", `(var "a")`},
		{`"a\n\t\"\\" + ""`, `(binary "+" (str "a\n\t\"\\") (str ""))`},
		{"0.50", `(double "0.50")`},
		{"9223372036854775807", `(int 9223372036854775807)`},
		{"1.length", `(length (int 1))`},
	} {
		if got := valueForm(t, x.text); got != x.want {
			t.Errorf("%s: %s, not %s", x.text, got, x.want)
		}
	}
}

// P8.5: a double's bits, and what else has a number.
func TestNumbers(t *testing.T) {
	p, _ := Parse(inStat("x = 0.1 + 7 + true; y = false; z = \"1\";"))
	for _, n := range p.Nodes {
		want := map[int]int64{api.DoubleLit: int64(math.Float64bits(0.1)), api.IntLit: 7}[n.Kind]
		if n.Kind == api.BoolLit && n.To-n.From == len("true") {
			want = 1
		}
		if n.N != want {
			t.Errorf("%s has %d, not %d", tree.Name(n.Kind), n.N, want)
		}
	}
}

// P8.1: what is a declaration, and what is a value.
func TestDeclares(t *testing.T) {
	for _, x := range []struct{ text, want string }{
		{"A b;", `(decl "b" A)`},
		{"A? b;", `(decl "b" A?)`},
		{"A[] b;", `(decl "b" A[])`},
		{"A [ ] b = c;", `(decl "b" A[] (var "c"))`},
		{"Option<A> b = some(c);", `(decl "b" Option<A> (some (var "c")))`},
		{"int b = 1;", `(decl "b" int (int 1))`},
		{"str[]? b;", `(decl "b" str[]?)`},
		{"bool b;", `(decl "b" bool)`},
		{"double b = -1.5;", `(decl "b" double (neg (double "1.5")))`},
		{"A[1] = b;", `(assign (index (var "A") (int 1)) (var "b"))`},
		{"A = b;", `(assign (var "A") (var "b"))`},
		{"A.b = c;", `(assign (get "b" (var "A")) (var "c"))`},
		{"A!.b();", `(expr (call "b" (guard (var "A"))))`},
		{"length_ b;", `(decl "b" length_)`},
	} {
		p, f := Parse(inStat(x.text))
		if f != (api.Fault{}) {
			t.Errorf("%v of %s", f, x.text)
			continue
		}
		if got := tree.Form(p, len(p.Nodes)-5); got != x.want {
			t.Errorf("%s, not %s", got, x.want)
		}
	}
}

// The chapter's example.
func TestExample(t *testing.T) {
	p, f := Parse("class A { int f(A? a) { return -1 + a!.f(null) * 2; } }")
	want := `(program (class "A" (method "f" int (param "a" A?) (block (return (binary "+" (neg (int 1)) (binary "*" (call "f" (guard (var "a")) (null)) (int 2))))))))`
	if got := tree.Form(p, p.Root); f != (api.Fault{}) || got != want {
		t.Errorf("%v %s", f, got)
	}
	if p, f := Parse("class A {"); f != (api.Fault{Code: api.ErrToken, At: 9}) || len(p.Nodes) != 0 {
		t.Errorf("%v", f)
	}
}

// P2: what is answered is new memory, its texts too, and hangs on the text alone.
func TestNewMemory(t *testing.T) {
	text := inStat("Abc?[] x = new Abc(\"abc\", 1.25); y.f(x);")
	bytes := []byte(text)
	p, _ := Parse(unsafe.String(&bytes[0], len(bytes)))
	q, _ := Parse(text)
	want := tree.Clone(q)
	for i := range bytes {
		bytes[i] = '-'
	}
	if !reflect.DeepEqual(p, want) {
		t.Error("a text is shared")
	}
	for i := range p.Nodes {
		for _, list := range [][]int{p.Nodes[i].Kids[:cap(p.Nodes[i].Kids)], p.Nodes[i].Ends[:cap(p.Nodes[i].Ends)]} {
			for j := range list {
				list[j] = -99
			}
		}
		p.Nodes[i] = api.Node{}
	}
	if again, _ := Parse(text); !reflect.DeepEqual(q, want) || !reflect.DeepEqual(again, want) {
		t.Error("memory is shared")
	}
}
