package class

import (
	"reflect"
	"slices"
	"strconv"
	"strings"
	"testing"
	"unsafe"

	"caulker/api"
	"caulker/parse"
	"caulker/tree"
)

// main is a class in which nothing is wrong.
const main = "class Main { int main() { return 1; } } "

// read is a program that is read.
func read(t *testing.T, text string) api.Tree {
	t.Helper()
	p, f := parse.Parse(text)
	if f != (api.Fault{}) {
		t.Fatalf("%v of %s", f, text)
	}
	return p
}

// table are the classes of a program in which nothing is wrong.
func table(t *testing.T, text string) *Table {
	t.Helper()
	x, f := Of(read(t, text))
	if x == nil || f != (api.Fault{}) {
		t.Fatalf("%v of %s", f, text)
	}
	return x
}

// refused holds a program to that this is wrong in it where the @ stands, or at 0, if there is none.
func refused(t *testing.T, code api.Errno, text string) {
	t.Helper()
	at := max(strings.Index(text, "@"), 0)
	x, f := Of(read(t, strings.Replace(text, "@", "", 1)))
	if x != nil || f != (api.Fault{Code: code, At: at}) {
		t.Errorf("%v, not %d at %d, of %s", f, code, at, text)
	}
}

// P11.1: what is there twice in one class, or in the program.
func TestTwice(t *testing.T) {
	for _, text := range []string{
		"@class Main { }", "class A { } @class A { }", "class B { } class A extends B { } class C { } @class B { int x; }",
		"class A { int x; @int x; }", "class A { int x; A y; int f() { } @str x; }", "class A { int x; int y; @int y; int x; }",
		"class A { int f() { } @int f() { } }", "class A { int f() { } int g() { } @void g(int a) { } int f() { } }",
		"class A { init() { } @init() { } }", "class A { init() { } int x; @init(int a) { } init() { } }",
	} {
		refused(t, api.ErrTwice, main+text)
	}
	table(t, main+"class A { int f; void f() { } int main; init() { } } class f { int f; int A; void f() { } init(int f) { } }")
}

// P11.2: ancestors and types that aren't there.
func TestMissing(t *testing.T) {
	for _, text := range []string{
		"class A @extends Z { }", "class A @extends main { }", "class A { int Z; } class B @extends Z { }",
		"class A { @Z z; }", "class A { @Option<Z> z; }", "class A { @Z?[]? z; }", "class A { @Option<Z?[]> z; }", "class A { @Z f() { } }",
		"class A { int f(int a, @Z b) { } }", "class A { init(@Z b) { } }", "class A { int f() { @Z b; } }", "class A { int f() { a = new @Z(); } }",
		"class A { int f() { a = new @Z[1]; } }", "class A { int f() { while (b) { a = -cast<@Z[]>(c); } } }",
		"class A { @Z f(Y a) { X b; } }", "class A { int x; } class B { @X x; Z z; }",
	} {
		refused(t, api.ErrMissing, main+text)
	}
	table(t, "class A extends Z { Z z; } class Z { Option<Main> f(A[] a) { Main b = new Main[new A()]; } } "+main)
}

// P11.2: classes from which one comes back to one.
func TestCycle(t *testing.T) {
	for _, text := range []string{
		"@class A extends A { }", "@class A extends B { } class B extends A { }", "class D { } @class A extends B { } class B extends C { } class C extends B { }",
		"class A extends D { } @class B extends B { } class D extends Main { } class C extends C { }", "@class C extends B { } class B extends A { } class A extends A { } class D { }",
		"class A extends Main { } class B extends A { } @class C extends D { } class D extends E { } class E extends C { }",
	} {
		refused(t, api.ErrCycle, main+text)
	}
	refused(t, api.ErrCycle, "@class Main extends Main { int main() { } }")
}

// P11.2: fields that an ancestor has, and methods that don't go over an ancestor's one.
func TestOver(t *testing.T) {
	for _, text := range []string{
		"class A { int x; } class B extends A { int y; @A x; }", "class B extends A { @int x; } class A extends C { } class C { int x; }",
		"class B extends A { } class A { int x; int y; } class C extends B { int z; @int y; int x; }",
	} {
		refused(t, api.ErrTwice, main+text)
	}
	for _, text := range []string{
		"class A { int f() { } } class B extends A { @int f(int a) { } }", "class A { int f(int a) { } } class B extends A { @int f() { } }",
		"class A { int f(int a) { } } class B extends A { @int f(str a) { } }", "class A { int f(int a) { } } class B extends A { @str f(int a) { } }",
		"class A { void f() { } } class B extends A { @int f() { } }", "class A { A f() { } } class B extends A { @B f() { } }", "class A { A f() { } } class B extends A { @A[] f() { } }",
		"class A { int f(A a, A b) { } } class B extends A { @int f(A a, B b) { } }", "class C extends B { @int f() { } } class B extends A { } class A { str f() { } }",
		"class A { int g(int a) { } int f() { } } class B extends A { int h() { } @int g() { } int f(int a) { } }", "class A { int main(int a) { } } class B extends A { @int main() { } }",
	} {
		refused(t, api.ErrOver, main+text)
	}
	for _, text := range []string{
		"class A { A? f(A[] a, int b) { } } class B extends A { Option<A> f(A?[]? x, int b) { } }", "class A { A f() { } } class B { int f() { } } class C extends B { int f() { } }",
		"class A { int x; void y() { } } class B extends A { int y; void x() { } }", "class A { int x; } class B { str x; } class C extends A { } class D extends B { }",
		"class A { init(int a) { } } class B extends A { init() { } }", "class A { void f() { } } class B extends A { void f() { } } class C extends B { void f() { } }",
	} {
		table(t, main+text)
	}
}

// P11.2: what Main must have.
func TestMain(t *testing.T) {
	for _, text := range []string{
		"", "class A { }", "class Main { }", "class main { int main() { } }", "class Main { int Main() { } }", "class Main { int main; }", "class Main { int main(int a) { } }", "class Main { str main() { } }",
		"class Main { int[] main() { } }", "class Main { Main main() { } }", "class Main { void main() { } }", "class Main { int main() { } init(int a) { } }",
		"class Main extends A { int main() { } } class A { init(Main a) { } }", "class Main extends A { init() { } } class A { void main() { } }", "class Main { } class A extends Main { int main() { } }",
		"class A { int main() { } }",
	} {
		refused(t, api.ErrMain, text)
	}
	for _, text := range []string{
		main, "class Main { int main() { } init() { } int x; }", "class Main extends A { int main() { } init() { } } class A { init(int a) { } }",
		"class B { int main() { } init() { } } class Main extends A { } class A extends B { }", "class Main { int main() { } } class A extends Main { init(int a) { } }",
	} {
		table(t, text)
	}
}

// P11.1, P11.2: of several things that are wrong, which one is told.
func TestWrongFirst(t *testing.T) {
	for _, x := range []struct {
		code api.Errno
		text string
	}{
		{api.ErrTwice, "class A { int x; @int x; } class A { }"},
		{api.ErrTwice, "class A extends Z { } @class A { int x; int x; }"},
		{api.ErrTwice, "class A { init() { } init() { } int f() { } int f() { } int x; @int x; }"},
		{api.ErrTwice, "class A { init() { } init() { } int f() { } int x; @int f() { } }"},
		{api.ErrTwice, "class A extends Z { Z z; } class B extends B { init() { } @init() { } }"},
		{api.ErrMissing, "class A { Z z; } class B @extends Z { }"},
		{api.ErrMissing, "class A extends A { } class B @extends Z { } class C extends Y { }"},
		{api.ErrMissing, "class A extends A { } class B { void f(@Y y) { } Z z; }"},
		{api.ErrCycle, "class A extends B { int x; int f() { } } class B { int x; str f() { } } @class C extends D { } class D extends D { }"},
		{api.ErrTwice, "class A extends B { str f() { } } class B { int f() { } int x; } class C extends B { @int x; }"},
		{api.ErrTwice, "class C extends B { int y; int w; @int z; } class B extends A { int u; } class A { int z; }"},
		{api.ErrOver, "class A extends B { @str f() { } } class B extends C { int f() { } } class C { str f() { } }"},
	} {
		refused(t, x.code, x.text)
	}
}

// P11.1: what layer 7 refuses is told at 0, whatever else is wrong.
func TestChecked(t *testing.T) {
	wrong := of(api.Program, "", of(api.Block, ""), of(api.Kinds, "")).tree()
	long := api.Tree{Nodes: make([]api.Node, tree.MaxNodes+1)}
	open := of(api.Program, "", of(api.ClassOf, "A")).tree()
	open.Root = 0
	for _, p := range []api.Tree{{}, wrong, long, open} {
		if x, f := Of(p); x != nil || f != (api.Fault{Code: tree.Check(p)}) || f.Code == api.OK {
			t.Errorf("%v, not %d", f, tree.Check(p))
		}
	}
}

// P11.1: each kind of node at each place in a program.
func TestPlaces(t *testing.T) {
	members := []int{api.Field, api.Init, api.Method}
	params, block := []int{api.Param}, []int{api.Block}
	x, a := of(api.Field, "x"), of(api.Param, "a")
	body := of(api.Block, "")
	for i, place := range []struct {
		may  []int
		with func(p *plant) *plant
	}{
		{[]int{api.ClassOf}, func(p *plant) *plant { return of(api.Program, "", of(api.ClassOf, "C"), p, of(api.ClassOf, "D")) }},
		{append(members, api.Ancestor), func(p *plant) *plant { return of(api.Program, "", of(api.ClassOf, "C", p, x)) }},
		{members, func(p *plant) *plant { return of(api.Program, "", of(api.ClassOf, "C", x, p)) }},
		{members, func(p *plant) *plant {
			return of(api.Program, "", of(api.ClassOf, "C", of(api.Ancestor, "C"), p, x))
		}},
		{params, func(p *plant) *plant {
			return of(api.Program, "", of(api.ClassOf, "C", of(api.Init, "", p, a, body)))
		}},
		{params, func(p *plant) *plant {
			return of(api.Program, "", of(api.ClassOf, "C", x, of(api.Method, "f", a, p, body), x))
		}},
		{block, func(p *plant) *plant { return of(api.Program, "", of(api.ClassOf, "C", of(api.Method, "f", p))) }},
		{block, func(p *plant) *plant { return of(api.Program, "", of(api.ClassOf, "C", x, of(api.Init, "", a, a, p))) }},
	} {
		for kind := 1; kind < api.Kinds; kind++ {
			p := smallest(kind)
			whole := place.with(p).tree()
			if e := tree.Check(whole); e != api.OK {
				t.Fatalf("%d: %d", kind, e)
			}
			f := wrongOf(whole)
			if slices.Contains(place.may, kind) != (f.Code != api.ErrPlace) || f.Code == api.ErrPlace && f.At != whole.Nodes[p.at].From {
				t.Errorf("%s at %d: %v", tree.Name(kind), i, f)
			}
		}
	}
}

// wrongOf is what is wrong with a program.
func wrongOf(p api.Tree) api.Fault {
	_, f := Of(p)
	return f
}

// smallest is a node of a kind, made of as few as may be: of blocks.
func smallest(kind int) *plant {
	p := of(kind, "")
	for tree.Check(of(api.Program, "", p).tree()) != api.OK {
		p.kids = append(p.kids, of(api.Block, ""))
	}
	return p
}

// P11.1: what stands where it may not is told one by one, what a member is made of with that, and ahead of what is there twice.
func TestPlacesFirst(t *testing.T) {
	wrong, other := of(api.Break, ""), of(api.Continue, "")
	x := of(api.Field, "x")
	body := of(api.Block, "")
	for i, p := range []*plant{
		of(api.Program, "", of(api.ClassOf, "C", of(api.Method, "f", wrong), other)),
		of(api.Program, "", of(api.ClassOf, "C", wrong, of(api.Method, "f", other))),
		of(api.Program, "", of(api.ClassOf, "C", of(api.Method, "f", wrong, other, body))),
		of(api.Program, "", of(api.ClassOf, "C", x, x, of(api.Init, "", body), of(api.Init, "", wrong))),
		of(api.Program, "", of(api.ClassOf, "C", wrong), other),
		of(api.Program, "", wrong, of(api.ClassOf, "C", other)),
		of(api.Program, "", of(api.ClassOf, "C", wrong), of(api.ClassOf, "C")),
		of(api.Program, "", of(api.ClassOf, "C", of(api.Ancestor, "Z"), wrong)),
	} {
		whole := p.tree()
		if f := wrongOf(whole); f != (api.Fault{Code: api.ErrPlace, At: whole.Nodes[wrong.at].From}) {
			t.Errorf("%d: %v", i, f)
		}
	}
}

// The chapter's example; and members that are asked for of their class, and of one that comes from it.
func TestExample(t *testing.T) {
	x := table(t, "class Main extends A { int y; str f(Main? m) { } } class A { int x; int main() { } Option<A> f; str f(Main m) { } init() { } }")
	m, ok := x.Method("Main", "main")
	list := x.Fields("Main")
	if !ok || m.Owner != "A" || len(list) != 3 || list[0].Name != "x" || list[1].Name != "f" || list[2].Name != "y" || list[2].Owner != "Main" {
		t.Errorf("%v %v", m, list)
	}
	family := x.Family("Main", "f")
	if len(family) != 2 || family[0].Owner != "Main" || family[0].Params[0].Marks != "?" || family[1].Owner != "A" || !same(family, x.Family("A", "f")) {
		t.Errorf("%v", family)
	}
	own := x.Own("A")
	if len(own) != 5 || own[0].Name != "x" || own[1].Type.Marks != "o" || own[2].Name != "main" || own[3].Name != "f" || own[4].Name != "" || own[4].Owner != "A" || own[4].Type != (api.Type{}) {
		t.Errorf("%v", own)
	}
}

// fitting are types: of classes of which B and C come from A, and C from B; one that isn't there; bases, void; of null and none; and wrong ones.
func fitting() []api.Type {
	list := []api.Type{{Base: api.Null, Marks: "?"}, {Base: api.None, Marks: "o"}, {Base: api.Void, Marks: " "}}
	for base := api.Int; base <= api.Str; base++ {
		list = append(list, api.Type{Base: base, Marks: " "}, api.Type{Base: base, Dims: 1, Marks: " ?"}, api.Type{Base: base, Dims: 1, Marks: " o"})
	}
	for _, name := range []string{"A", "B", "C", "Main", "Z"} {
		for _, marks := range []string{" ", "?", "o", "  ", "??", " o", "   ", "     "} {
			list = append(list, api.Type{Base: api.Class, Name: name, Dims: len(marks) - 1, Marks: marks})
		}
		list = append(list, api.Type{Base: api.Class, Name: name, Marks: "x"}, api.Type{Base: api.Class, Name: name}, api.Type{Base: api.Class, Name: name, Dims: -1})
	}
	return append(list, api.Type{}, api.Type{Base: api.Null, Marks: " "}, api.Type{Base: api.None, Marks: "?"}, api.Type{Base: api.Null, Name: "A", Marks: "?"}, api.Type{Base: api.Int, Name: "A", Marks: " "}, api.Type{Base: api.Void, Dims: 1, Marks: "  "}, api.Type{Base: 9, Marks: " "})
}

// P11.6: Fits, of all pairs.
func TestFits(t *testing.T) {
	p := read(t, main+"class C extends B { } class A { } class B extends A { } class Empty { }")
	for i, n := range p.Nodes {
		if n.Text == "Empty" {
			p.Nodes[i].Text = "" // types without a name are of no class, not of this one
		}
	}
	x, _ := Of(p)
	comes := map[string]string{"A": "A", "B": "BA", "C": "CBA", "Main": "Main", "Z": "Z"}
	null, none := fitting()[0], fitting()[1]
	for _, a := range fitting() {
		for _, b := range fitting() {
			refers := tree.TypeText(b) != "" && (b.Base == api.Class || b.Dims > 0)
			want := refers
			if a != null && a != none {
				alike := a.Base == b.Base && a.Dims == b.Dims && a.Name == b.Name
				below := a.Base == api.Class && b.Base == api.Class && a.Dims+b.Dims == 0 && strings.Contains(comes[a.Name], b.Name)
				want = tree.TypeText(a) != "" && tree.TypeText(b) != "" && a.Base != api.Void && (alike || below)
			}
			if x.Fits(a, b) != want {
				t.Errorf("%+v for %+v: %t", a, b, !want)
			}
		}
	}
}

// P2: the program isn't changed, and changing it later, or what was answered, changes no answer; each answer is new memory.
func TestNewMemory(t *testing.T) {
	p := read(t, main+"class A { B?[] x; A? y; A? f(int a, A? b) { } init(B b) { } } class B extends A { }")
	was := tree.Clone(p)
	bytes := []byte("Axyf?")
	for i := range p.Nodes {
		n := &p.Nodes[i]
		if at := strings.Index("Axyf", n.Text); at >= 0 && n.Text != "" {
			n.Text = unsafe.String(&bytes[at], 1)
		}
		if n.Type.Name == "A" {
			n.Type.Name, n.Type.Marks = unsafe.String(&bytes[0], 1), unsafe.String(&bytes[4], 1)
		}
	}
	x, _ := Of(p)
	if !reflect.DeepEqual(p, was) {
		t.Fatal("the program is changed")
	}
	for i := range p.Nodes {
		clear(p.Nodes[i].Kids)
		p.Nodes[i] = api.Node{}
	}
	clear(bytes)
	m := model{Tree: was}
	for range 2 {
		for _, name := range append(asked, "init") {
			m.holdClass(t, x, name)
			for _, list := range [][]Member{x.Own(name), x.Fields(name), x.Family("B", name), x.Family(name, "f")} {
				for i := range list[:cap(list)] {
					params := list[:cap(list)][i].Params
					for j := range params[:cap(params)] {
						params[:cap(params)][j] = api.Type{Name: "-"}
					}
					list[:cap(list)][i] = Member{Name: "-"}
				}
			}
			f, _ := x.Method(name, "f")
			clear(f.Params[:cap(f.Params)])
			init, _ := x.Init(name)
			clear(init.Params[:cap(init.Params)])
			clear(x.Chain(name))
		}
		clear(x.Names())
	}
	for i, one := range [][2]string{{x.Names()[0], x.Names()[0]}, {x.Chain("B")[1], x.Chain("B")[1]}, {x.Parent("B"), x.Parent("B")}} {
		if unsafe.StringData(one[0]) == unsafe.StringData(one[1]) {
			t.Errorf("%d: two answers share a text", i)
		}
	}
	own, again := x.Own("A"), x.Own("A")
	if &own[2].Params[0] == &again[2].Params[0] || unsafe.StringData(own[0].Owner) == unsafe.StringData(again[0].Owner) {
		t.Error("two answers share memory")
	}
}

// P1: as many nodes as there may be: many classes in one chain, each of which has a field and a method, and many in one class.
func TestMany(t *testing.T) {
	p := of(api.Program, "", of(api.ClassOf, "Main", of(api.Method, "main", of(api.Block, ""))))
	const n = 3275
	for i := range n {
		name := strconv.Itoa(i)
		p.kids = append(p.kids, of(api.ClassOf, name, of(api.Ancestor, strconv.Itoa(i+1)), of(api.Field, name), of(api.Method, "f", of(api.Block, ""))))
	}
	p.kids = append(p.kids, of(api.ClassOf, strconv.Itoa(n)))
	x, f := Of(p.tree())
	if f != (api.Fault{}) || len(x.Names()) != n+2 || len(x.Chain("0")) != n+1 || len(x.Fields("0")) != n || len(x.Family("0", "f")) != n || !x.Sub("0", "3275") || x.Sub("3275", "0") {
		t.Errorf("a long chain: %v", f)
	}
	p.kids[n+1].kids = []*plant{of(api.Ancestor, "0")}
	whole := p.tree()
	if f := wrongOf(whole); f != (api.Fault{Code: api.ErrCycle, At: whole.Nodes[p.kids[1].at].From}) {
		t.Errorf("a long way round: %v", f)
	}
	p = of(api.Program, "", of(api.ClassOf, "Main", of(api.Method, "main", of(api.Block, ""))))
	for i := range tree.MaxNodes - 4 {
		p.kids[0].kids = append(p.kids[0].kids, of(api.Field, strconv.Itoa(i)))
	}
	x, f = Of(p.tree())
	if f != (api.Fault{}) || len(x.Own("Main")) != tree.MaxNodes-3 {
		t.Errorf("many in one class: %v", f)
	}
}
