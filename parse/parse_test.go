package parse

import (
	"math/rand"
	"reflect"
	"strings"
	"testing"

	"caulker/api"
	"caulker/tree"
)

// held holds the fault of a text to the one that is told at the token behind a `@` in it, which isn't the text's; with it there is no program.
func held(t *testing.T, code api.Errno, marked string) {
	t.Helper()
	want := api.Fault{}
	if code != api.OK {
		_, behind, _ := strings.Cut(marked, "@")
		want = api.Fault{Code: code, At: len(marked) - 1 - len(strings.TrimLeft(behind, " "))}
	}
	p, f := Parse(strings.Replace(marked, "@", "", 1))
	if f != want {
		t.Errorf("%v, not %v, of %.300s", f, want, marked)
	}
	if refused := f != (api.Fault{}); refused && !reflect.DeepEqual(p, api.Tree{}) || !refused && tree.Check(p) != api.OK {
		t.Errorf("%d nodes, %d, beside %v, of %.300s", len(p.Nodes), tree.Check(p), f, marked)
	}
}

// inStat and inValue are texts with a statement, and with a value.
func inStat(s string) string  { return "class A { void f() { " + s + " } }" }
func inValue(s string) string { return inStat("x = " + s + ";") }

// P8.1: layer 6's faults are told ahead of all else.
func TestLexFaults(t *testing.T) {
	for _, s := range []string{"@#", "class if @#", "; @\"", "class A { int? x; } @\"\\q\"", "} @" + strings.Repeat("w", 65), "x\n@&"} {
		code := api.ErrSign
		switch s[strings.Index(s, "@")+1] {
		case '"':
			code = api.ErrOpen
			if strings.Contains(s, `\q`) {
				code = api.ErrForm
			}
		case 'w':
			code = api.ErrLong
		}
		held(t, code, s)
	}
	if p, f := Parse(strings.Repeat(" ", 65537)); f != (api.Fault{Code: api.ErrLong}) || len(p.Nodes) != 0 {
		t.Errorf("too long a text: %v", f)
	}
	if _, f := Parse(strings.Repeat(";", 16385)); f != (api.Fault{Code: api.ErrLong, At: 16384}) {
		t.Errorf("too many tokens: %v", f)
	}
	if _, f := Parse(strings.Repeat(";", 16384)); f != (api.Fault{Code: api.ErrToken}) {
		t.Errorf("as many tokens as there may be: %v", f)
	}
}

// P8.1: wrong tokens of programs, classes and members.
func TestWrongTokens(t *testing.T) {
	for _, s := range []string{
		"@x", "@;", "@{", "@\"class\" A {}", "class @class {}", "class @\"A\" {}", "class @1 {}", "class A @x", "class A@", "class A {@", "class A { } @}", "class A { } class@",
		"class A extends @{}", "class A extends B @extends C {}", "class A extends B@, C {}", "class A extends@", "@extends A {}", "class A @< B {}",
		"class A { @void x; }", "class A { @void x }", "class A { @void x", "class A { @void x = 1; }", "class A { void@? f() {} }", "class A { void@[] f() {} }", "class A { void@", "class A { void @void f() {} }",
		"class A { init @f() {} }", "class A { init() @; }", "class A { int @init() {} }", "class A { int f() @; }", "class A { f@() {} }", "class A { int @int; }", "class A { int x @= 1; }", "class A { int x@, y; }", "class A { int x @}", "class A { @; }", "class A { @class B {} }", "class A { @this x; }",
		"class A { int @length; }", "class A { int[@1] x; }", "class A { A[@x; }", "class A { A[@", "class A { A[]@] x; }", "class A { A [@; }",
		"class A { Option @A x; }", "class A { Option<@> x; }", "class A { Option<@Option<A>> x; }", "class A { Option<A @x; }", "class A { Option<A>@? x; }", "class A { Option<A>@[] x; }", "class A { Option<@void> x; }", "class A { Option<A@>= x; }", "class A { Option<A@", "class A { Option<A[@> x; }",
		"class A { int f(@,) {} }", "class A { int f(int a,@) {} }", "class A { int f(int a @int b) {} }", "class A { int f(int@) {} }", "class A { int f(@void a) {} }", "class A { int f(int a @= 1) {} }", "class A { int f(int a@; int b) {} }", "class A { int f(@1) {} }", "class A { void f(@", "class A { void f(int a) @void g() {} }",
	} {
		held(t, api.ErrToken, s)
	}
}

// P8.1: wrong tokens of statements and declarations.
func TestWrongStats(t *testing.T) {
	for _, s := range []string{
		"@;", "@void x;", "@else {}", "@)", "@init();", "@class", "@]", "@, a;", "@= a;", "@extends b;",
		"if @a {}", "if (a) @x;", "if (@) {}", "if (a @{}", "if (a) {} else @if (b) {}", "if (a) {} else {} @else {}", "if (a)@", "while (a) @;", "while (a@, b) {}", "while @{}", "while (@) {}",
		"break @", "break @1;", "break @break;", "continue @a;", "return a @", "return @)", "return @return;", "return a @b;", "return (@);",
		"print @a;", "print(@);", "print(a@, b);", "print(a) @", "print(a)@.x();", "super@;", "super@.x;", "super(a)@.x();", "super(a,@);", "super(@,a);", "super(a @b);", "super(a)@ = b;",
		"A a @b;", "A a = @;", "A a = 1 @= 2;", "A a@, b;", "A? @= 1;", "A[] @= 1;", "A[]@.x = 1;", "A [ @;", "A[1] @x;", "A[1@;", "A @if;", "int @;", "int@.x;", "int[@1] x;", "int@(a);", "Option@;", "A? @(b);", "str@ = a;",
		"a = b @= c;", "a + @= 1;", "a @1;", "a.b @c;", "(a) @b;", "a@{};", "a.f() @b", "a.f()@, b;", "a.f() @}", "a = 1 @}", "a = 1 @b = 2;", "1 @}", "a + @", "{} @; {}",
	} {
		held(t, api.ErrToken, inStat(s))
	}
}

// P8.1, P8.5: wrong tokens of values.
func TestWrongValues(t *testing.T) {
	for _, s := range []string{
		"@", "@)", "(@)", "(a@", "(a@]", "(a@, b)", "a @b", "1 @2", "a +@", "a + @* b", "@* b", "a ==@", "a == @== b", "a @= b", "@+ a", "@&& a", "a ! @b",
		"a[@]", "a[1@)", "a[1@, 2]", "a.@", "a.@1", "a.@if", "a.@\"b\"", "a.@(b)", "a.length@()", "a.val@(b)", "a.@is", "a.@.b", "1.5.@5", "a@(b)", "this@(b)", "@super", "@super()", "@void", "@init", "@Option<A>", "@int", "a@?", "a @? b", "@? a",
		"a.f(@,)", "a.f(b@", "a.f(b,@)", "a.f(b @c)", "a.f(b)@(c)", "a.f(b@]", "\"a\" @\"b\"", "\"a\"@(b)", "!@", "-@)", "- @is some",
		"a is @b", "a is@", "a is @!some", "a is @null", "a is @(some)", "@is some", "a is @some1", "a @some", "a == none1 @x", "@is",
		"a is some @+ b", "a is none @- b", "a is some @* b", "a is some @/ b", "a is some @% b", "a + b is some @+ c", "b < a is some @+ c", "a == b is none @* c", "-a is some @- b", "a is some is none @+ b",
		"a is some @.x", "a is none@[1]", "a is some @some", "a is some@(b)", "a is some@!", "a is some @!b", "a is some is@",
		"new @", "new @(1)", "new A@", "new A@.x", "new A[]@", "new A[1@", "new A[@", "new A[] @x", "new A[]@{}", "new A[1]@{}", "new @Option<A>()", "new @void()", "new @if()", "new @this()", "new int@", "new A?@", "new A(@,)", "new A(b,@)", "new A[1@, 2]", "new A[@,]", "new @new A()",
		"some@", "some @a", "some(@)", "some(a@, b)", "some(a@", "none @(a", "ask@", "ask(@)", "toint @1", "todouble@[1]", "input@", "input(@1)", "input@[1]", "input(@", "input()@(1)",
		"cast @(a)", "cast<@>(a)", "cast<A>@ a", "cast<A>(@)", "cast<A @(a)", "cast<A@>= (a)", "cast<@void>(a)", "cast<Option<A>@(a)", "cast<a@.b>(c)", "cast@", "cast<@1>(a)", "cast<A>(a@, b)", "cast<A[@1]>(a)",
		"true @true", "null@(a)", "none @none",
	} {
		held(t, api.ErrToken, inValue(s))
	}
}

// P8.3: what may not be assigned to, and what may not be a statement.
func TestPlaces(t *testing.T) {
	for _, s := range []string{
		"1 @= a;", "a.f() @= b;", "x! @= 1;", "this @= a;", "a.length @= 1;", "a.val @= 1;", "-a @= 1;", "!a @= b;", "a + b @= c;", "a is some @= b;", "null @= a;", "new A() @= b;", "new A[1] @= b;", "(a!) @= b;", "((a.f())) @= b;", "some(a) @= b;", "cast<A>(a) @= b;", "input() @= 1;", "\"a\" @= b;", "true @= a;", "a == b @= c;",
		"@1;", "@a;", "@a.b;", "@a[1];", "@a.length;", "@a.f()!;", "@a.f().val;", "@a.f().x;", "@a.f()[1];", "@-a.f();", "@a.f() + 1;", "@a.f() is some;", "@new A[1];", "@(a);", "@(a).b;", "@((a));", "@this;", "@null;", "@some(a.f());", "@cast<A>(a.f());", "@input();", "@\"a\";", "@true;", "@1.5;", "@!a;", "@new A()!;", "@ask(a);", "@toint(1.5);", "{ if (a) { @b; } }", "a.f(); @b; c;",
		"1 @= ;", "1 @= 2", "a.f() @= 1 1;", "1 @= 99999999999999999999;", "@a; )", "@1; x", "@a; 01;",
	} {
		held(t, api.ErrPlace, inStat(s))
	}
	for _, s := range []string{"1@", "1 @2;", "a.b@)", "1 @1 = 2;", "a.f() @1 = 2;"} {
		held(t, api.ErrToken, inStat(s+" } }"))
	}
	for _, s := range []string{"a = 1;", "a.b = 1;", "a[1] = 1;", "(a) = 1;", "((a.b)) = 1;", "(a[1]) = (1);", "a!.b = 1;", "a.f().b = 1;", "a.f()[1] = 2;", "new A().b = 1;", "this.a = 1;", "a.f();", "(a.f());", "new A();", "(new A(1));", "a!.f();", "new A().f();", "a.length.f();", "\"a\".f();", "(1).f();", "1 .f();"} {
		held(t, api.OK, inStat(s))
	}
}

// P8.4: marks that may not be.
func TestWrongMarks(t *testing.T) {
	for _, of := range []string{"class A { # x; }", "class A { # f() {} }", "class A { void f(# x) {} }", "class A { init(int y, # x) {} }", inStat("# x;"), inStat("# x = 1;"), inValue("cast<#>(a)"), inValue("new #[1]")} {
		for _, s := range []string{"int@?", "bool@?", "double@? []", "str@??", "A?@?", "A? @ ?", "A[]?@?", "int[]?@?", "A?[]?@?[]", "int[][]?@?", "int@?[]?"} {
			held(t, api.ErrMark, strings.Replace(of, "#", s, 1))
		}
		if strings.Contains(of, "new") {
			continue
		}
		for _, s := range []string{"Option<int@?>", "Option<A?@?>", "Option<A[]?@?>"} {
			held(t, api.ErrMark, strings.Replace(of, "#", s, 1))
		}
		for _, s := range []string{"@Option<int>", "@Option<bool>", "@Option<double>", "@Option<str>", "@Option<A?>", "@Option<A[]?>", "@Option<int[]?>", "@Option < A?[]? >"} {
			held(t, api.ErrForm, strings.Replace(of, "#", s, 1))
		}
		for _, s := range []string{"Option<A>", "Option<int[]>", "Option<A?[]>", "Option<int[]?[]>", "A?[]?", "int[]?[]", "A[][][][]?", "Option<A?[]?[]?[]?[]>"} {
			held(t, api.OK, strings.Replace(of, "#", s, 1))
		}
	}
	held(t, api.ErrToken, "class A { Option<int@ x; }")
	held(t, api.ErrToken, "class A { Option<A?@; }")
	held(t, api.ErrForm, "class A { @Option<int>; }")
	held(t, api.ErrMark, "class A { int@? if; }")
}

// P8.5: what is made anew must be of a class.
func TestWrongNew(t *testing.T) {
	for _, s := range []string{"new @int()", "new @str(1)", "new @A?()", "new @A[]()", "new @A[]?(a)", "new @int[](1)", "new @bool(01)", "-new @int()", "new @int(if)", "new @A?(,)"} {
		held(t, api.ErrForm, inValue(s))
	}
	for _, s := range []string{"new A()", "new A[1]", "new A?[1]", "new int[1]", "new int[][1]", "new A[]?[1]", "new A[][][][][1]", "new A[1][2]", "new A()[1]", "new A [ 1 ]"} {
		held(t, api.OK, inValue(s))
	}
}

// P8.5: layer 5's errors, at the number.
func TestWrongNumbers(t *testing.T) {
	for _, s := range []string{"@01", "1 + @00", "@007", "a[@01]"} {
		held(t, api.ErrForm, inValue(s))
	}
	for _, s := range []string{"@9223372036854775808", "-@9223372036854775808", "@99999999999999999999", "1 + @9223372036854775808"} {
		held(t, api.ErrRange, inValue(s))
	}
	for _, s := range []string{"@01.5", "@00.5"} {
		held(t, api.ErrForm, inValue(s))
	}
	for _, s := range []string{"@1234567890.123456", "@0.123456789012345", "-@1234567890.123456"} {
		held(t, api.ErrLong, inValue(s))
	}
	for _, s := range []string{"0", "9223372036854775807", "-9223372036854775807", "0.12345678901234", "0.0", "10", "1.05"} {
		held(t, api.OK, inValue(s))
	}
	held(t, api.ErrForm, inValue("@01 1"))
	held(t, api.ErrToken, inValue("1 @01"))
}

// P8.1: what is found first is told.
func TestFirstFault(t *testing.T) {
	for _, x := range []struct {
		code api.Errno
		text string
	}{
		{api.ErrMark, "class A { int@? x; } class if"},
		{api.ErrToken, "class A { int @if; int? x; }"},
		{api.ErrPlace, inStat("@1; int? x;")},
		{api.ErrMark, inStat("int@? x; 1;")},
		{api.ErrForm, inStat("x = @01; 1 = 2;")},
		{api.ErrToken, inStat("x = @;") + " class class"},
		{api.ErrForm, "class A { @Option<int> x; void y; }"},
		{api.ErrToken, "class A { @void y; Option<int> x; }"},
	} {
		held(t, x.code, x.text)
	}
}

// P1, P8.1: texts of all kinds are answered; beside a fault, which is told in the text or at its end, there is no program, else it is one that layer 7 lets stand.
func TestWild(t *testing.T) {
	words := strings.Fields(`class A extends B { } init void int bool double str Option < > ? [ ] ( ) ; , . = == != <= >= && || + - * / % ! if else while break continue return print super this null none some is true false new cast toint todouble input ask length val a b 1 007 1.5 "s" "\q" # 99999999999999999999`)
	begins := []string{"", "class A {", "class A { void f(", "class A { void f() { ", "class A { void f() { x = "}
	next := rand.New(rand.NewSource(10))
	for range 30000 {
		text := begins[next.Intn(len(begins))]
		for range next.Intn(12) {
			text += words[next.Intn(len(words))] + []string{" ", " ", ""}[next.Intn(3)]
		}
		p, f := Parse(text)
		if f == (api.Fault{}) && tree.Check(p) == api.OK {
			continue
		}
		if f.Code == api.OK || f.At < 0 || f.At > len(text) || !reflect.DeepEqual(p, api.Tree{}) {
			t.Fatalf("%v, %d nodes, of %s", f, len(p.Nodes), text)
		}
		if again, g := Parse(text); g != f || len(again.Nodes) != 0 {
			t.Fatalf("%v, and then %v, of %s", f, g, text)
		}
	}
	for c := range 256 {
		for _, text := range []string{string([]byte{byte(c)}), "class " + string([]byte{byte(c)}), inStat(string([]byte{byte(c)})), times(70000, string([]byte{byte(c)}))} {
			if p, f := Parse(text); f.Code == api.OK && tree.Check(p) != api.OK || f.Code != api.OK && len(p.Nodes) > 0 {
				t.Errorf("%v of %.20q", f, text)
			}
		}
	}
}
