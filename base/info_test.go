package base

import (
	"math"
	"reflect"
	"slices"
	"strings"
	"testing"
	"unsafe"

	"caulker/api"
	"caulker/class"
	"caulker/kind"
	"caulker/scope"
	"caulker/tree"
)

// P13.1: what layer 11 tells comes first, then what layer 12 tells of each body, and then what is wrong in them: class by class, methods first.
func TestOrder(t *testing.T) {
	main := "class Main { int main() { return 1; } "
	for _, x := range []struct {
		code api.Errno
		text string
	}{
		{api.ErrMissing, main + "void f() { break; x = 1; @Z z; } }"},
		{api.ErrTwice, main + "void f() { break; x = 1; } @void f() { } }"},
		{api.ErrOver, main + "} class A { void f() { break; x = 1; } } class B extends A { @int f() { } }"},
		{api.ErrMain, "class Main { void f() { break; x = 1; } }"},
		{api.ErrMissing, main + "init() { break; } } class A { void f() { break; } init(int i) { @x = 1; } }"},
		{api.ErrTwice, main + "init() { int y = 1.5; } void f() { int x; @int x; y = 1; } } class A { void f() { x = 1; } }"},
		{api.ErrMissing, main + "init() { int y; int y; } void f() { break; @x = 1; } }"},
		{api.ErrTwice, main + "} class A { init() { int y; @int y; } } class B { void f() { x = 1; } }"},
		{api.ErrPlace, main + "init() { int y = 1.5; } void f() { @break; int z = 1.5; } }"},
		{api.ErrPlace, main + "} class A { init() { @break; } } class B { void f() { int z = 1.5; } }"},
		{api.ErrKind, main + "void g() { int z = @1.5; } void f() { break; } }"},
		{api.ErrPlace, main + "init() { @break; } } class A { void f() { int z = 1.5; } init() { } }"},
	} {
		refused(t, x.code, x.text)
		hold(t, read(t, strings.Replace(x.text, "@", "", 1)))
	}
}

// P13.1: what layer 7 refuses is told at 0.
func TestChecked(t *testing.T) {
	p := read(t, inMain("break;"))
	p.Root--
	for _, p := range []api.Tree{{}, p, {Nodes: make([]api.Node, tree.MaxNodes+1)}} {
		if x, f := Of(p); x != nil || f != (api.Fault{Code: tree.Check(p)}) || f.Code == api.OK {
			t.Errorf("%v, not %d", f, tree.Check(p))
		}
	}
}

// P13.2 to P13.4: of several things that are wrong in a body, which one is told.
func TestFirst(t *testing.T) {
	for _, x := range []struct {
		code api.Errno
		text string
	}{
		{api.ErrKind, "int x = 1 + @1.5; break;"}, {api.ErrPlace, "{ { @break; } } int x = 1.5;"}, {api.ErrMissing, "@a.x = 1 + 1.5;"}, {api.ErrKind, "a.n = 1 + @1.5;"},
		{api.ErrKind, "if (@i) { break; } break;"}, {api.ErrPlace, "if (b) { @break; } else { i = 1.5; }"}, {api.ErrPlace, "while (b) { } @continue;"}, {api.ErrKind, "while (i < @d) { super(); }"},
		{api.ErrKind, "print(!@i && i);"}, {api.ErrKind, "a.f(@i, d);"}, {api.ErrArgs, "@a.f(i);"}, {api.ErrKind, "a.f(-@b, !i);"}, {api.ErrKind, "@i.f(-b);"}, {api.ErrMissing, "@a.no(-b);"},
		{api.ErrKind, "l[@d] = i;"}, {api.ErrKind, "@i[d] = 1.5;"}, {api.ErrKind, "l[0] = l[@d];"}, {api.ErrPlace, "bool q = @a.x is some;"}, {api.ErrKind, "bool q = ask(-@b) == 1;"},
		{api.ErrKind, "B[] q = new B[@d];"}, {api.ErrArgs, "D q = @new D(-b);"}, {api.ErrKind, "A q = cast<A>(-@b);"}, {api.ErrKind, "int q = cast<int>(-@b);"}, {api.ErrKind, "int q = cast<int>(@i);"},
		{api.ErrKind, "return 1 + @1.5;"}, {api.ErrKind, "print(-@b == a.x);"}, {api.ErrMissing, "print(b + @a.x);"},
	} {
		refused(t, x.code, inMain(x.text))
		hold(t, read(t, inMain(strings.Replace(x.text, "@", "", 1))))
	}
	main := "class Main { int main() { return 1; } "
	refused(t, api.ErrArgs, main+"void f() { @return 1 + 1.5; } }")
	refused(t, api.ErrArgs, main+"} class A { init(int i) { } } class B extends A { init() { @super(1 + 1.5, 1); break; } }")
	refused(t, api.ErrPlace, main+"} class A { init(int i) { } } class B extends A { @init() { break; super(); } }")
}

// The types of null and none, and of what answers nothing.
func TestNothing(t *testing.T) {
	told(t, "null == null", "bool")
	for value, want := range map[string]string{"null": "null", "none": "none"} {
		p, node := inside(t, "A q = ", value, ";")
		if x, f := Of(p); x == nil || kind.Show(x.Type(node)) != want {
			t.Errorf("%s: %v", value, f)
		}
	}
	p := read(t, inMain("a.g();"))
	x, _ := Of(p)
	for i, n := range p.Nodes {
		if n.Kind == api.Call && x.Type(i) != plain(api.Void) {
			t.Errorf("%v", x.Type(i))
		}
	}
}

// The chapter's example.
func TestExample(t *testing.T) {
	x := known(t, "class A { A?[] a; } class Main { int z; A?[] a; int main() { int n = 1 + 2; A? x = this.a[n]; return n; } }")
	for i := range x.Len() {
		if n := x.Node(i); n.Kind == api.Binary && kind.Show(x.Type(i)) != "int" || n.Kind == api.Index && kind.Show(x.Type(i)) != "A?" {
			t.Errorf("%d: %v", i, x.Type(i))
		}
	}
}

// P13.5: the program, its nodes, its classes and its bodies.
func TestInfo(t *testing.T) {
	text := "class A extends B { init(int k, A? j) { A? l = j; } A? f(A i) { return i; } int g; } class B { } class Main { void x() { } init() { } int main() { int a = 1; { a = 2; } return a; } }"
	p := read(t, text)
	x := known(t, text)
	if x.Len() != len(p.Nodes) || !reflect.DeepEqual(x.Tree(), p) {
		t.Errorf("%v", x.Tree())
	}
	for i, n := range p.Nodes {
		if !reflect.DeepEqual(x.Node(i), n) {
			t.Errorf("%d: %v", i, x.Node(i))
		}
	}
	if !slices.Equal(x.Table().Names(), []string{"A", "B", "Main"}) || x.Table() != x.Table() || x.Table().Parent("A") != "B" {
		t.Errorf("%v", x.Table().Names())
	}
	var said []string
	for i, b := range x.Bodies() {
		n := p.Nodes[b.Node]
		said = append(said, b.Owner+"."+n.Text)
		if b.Init != (n.Kind == api.Init) || b.Type != n.Type || x.Within(b.Node) != i {
			t.Errorf("%d: %v", i, b)
		}
		for slot, l := range b.Scope.Locals() {
			if x.Slot(l.Node) != slot || x.Within(l.Node) != i || l.Type != p.Nodes[l.Node].Type {
				t.Errorf("%d: %v", i, l)
			}
			for _, use := range b.Scope.Uses(slot) {
				if x.Slot(use) != slot || x.Within(use) != i || x.Type(use) != l.Type {
					t.Errorf("%d: %v %d", i, l, use)
				}
			}
		}
	}
	if !slices.Equal(said, []string{"A.f", "A.", "Main.x", "Main.main", "Main."}) {
		t.Errorf("%v", said)
	}
	for i, n := range p.Nodes {
		switch n.Kind {
		case api.Program, api.ClassOf, api.Ancestor, api.Field:
			if x.Within(i) != -1 || x.Slot(i) != -1 || x.Type(i) != (api.Type{}) {
				t.Errorf("%d: %d", i, x.Within(i))
			}
		case api.Decl, api.Param:
			if x.Within(i) < 0 || x.Slot(i) < 0 || x.Type(i) != (api.Type{}) {
				t.Errorf("%d: %d", i, x.Within(i))
			}
		case api.Block, api.Return, api.Assign, api.IntLit:
			if x.Within(i) < 0 || x.Slot(i) != -1 || (x.Type(i) == plain(api.Int)) != (n.Kind == api.IntLit) {
				t.Errorf("%d: %d", i, x.Within(i))
			}
		}
	}
}

// P1: numbers of no node.
func TestNoNode(t *testing.T) {
	x := known(t, inMain("print(i);"))
	for _, i := range []int{-1, x.Len(), x.Len() + 1, math.MinInt, math.MaxInt} {
		if x.Type(i) != (api.Type{}) || x.Slot(i) != -1 || x.Within(i) != -1 || !reflect.DeepEqual(x.Node(i), api.Node{}) {
			t.Errorf("%d: %v %d %d %v", i, x.Type(i), x.Slot(i), x.Within(i), x.Node(i))
		}
	}
}

// P2: the program isn't changed, and changing it later, or what was answered, changes no answer; each answer is new memory.
func TestNewMemory(t *testing.T) {
	text := "class Main { A? f() { A? x = this.a; x = x!.a; A y = new A(); return x; } A? a; int main() { return 1; } } class A { A? a; }"
	p := read(t, text)
	was := tree.Clone(p)
	bytes := []byte("Aax?")
	for i := range p.Nodes {
		n := &p.Nodes[i]
		if at := strings.Index("Aax", n.Text); at >= 0 && n.Text != "" {
			n.Text = unsafe.String(&bytes[at], 1)
		}
		if n.Type.Name == "A" {
			n.Type.Name = unsafe.String(&bytes[0], 1)
			if n.Type.Marks == "?" {
				n.Type.Marks = unsafe.String(&bytes[3], 1)
			}
		}
	}
	x, f := Of(p)
	if !reflect.DeepEqual(p, was) || x == nil {
		t.Fatalf("%v, or the program is changed", f)
	}
	for i := range p.Nodes {
		clear(p.Nodes[i].Kids)
		clear(p.Nodes[i].Ends)
		p.Nodes[i] = api.Node{}
	}
	clear(bytes)
	want, _ := Of(was)
	for range 2 {
		spoil(t, x, want)
	}
	one, other := x.Bodies()[0], x.Bodies()[0]
	if shared(one.Owner, other.Owner) || sharing(one.Type, other.Type) || sharing(one.Type, x.Node(one.Node).Type) || one.Scope == other.Scope {
		t.Error("two answers share memory")
	}
	for i := range x.Len() {
		if sharing(x.Type(i), x.Type(i)) || sharing(x.Type(i), x.Node(i).Type) || sharing(x.Node(i).Type, x.Node(i).Type) || shared(x.Node(i).Text, x.Node(i).Text) {
			t.Errorf("%d: two answers share memory", i)
		}
	}
}

// shared is whether two texts stand in the same memory.
func shared(a, b string) bool { return a != "" && unsafe.StringData(a) == unsafe.StringData(b) }

// sharing is whether two types do.
func sharing(a, b api.Type) bool { return shared(a.Name, b.Name) || shared(a.Marks, b.Marks) }

// spoil holds what is told of a program to what is told of its like, and then overwrites it all.
func spoil(t *testing.T, x, want *Info) {
	t.Helper()
	if !reflect.DeepEqual(x.Tree(), want.Tree()) || x.Len() != want.Len() {
		t.Fatalf("%v", x.Tree())
	}
	for i := range x.Len() {
		if x.Type(i) != want.Type(i) || x.Slot(i) != want.Slot(i) || x.Within(i) != want.Within(i) || !reflect.DeepEqual(x.Node(i), want.Node(i)) {
			t.Fatalf("%d: %v", i, x.Node(i))
		}
		n := x.Node(i)
		clear(n.Kids[:cap(n.Kids)])
		clear(n.Ends[:cap(n.Ends)])
	}
	for i, b := range x.Bodies() {
		w := want.Bodies()[i]
		if b.Owner != w.Owner || b.Type != w.Type || b.Node != w.Node || !slices.Equal(b.Scope.Locals(), w.Scope.Locals()) {
			t.Fatalf("%d: %v", i, b)
		}
		*b.Scope = scope.Scope{}
	}
	clear(x.Bodies())
	all := x.Tree()
	for i := range all.Nodes {
		clear(all.Nodes[i].Kids[:cap(all.Nodes[i].Kids)])
		clear(all.Nodes[i].Ends[:cap(all.Nodes[i].Ends)])
	}
	clear(all.Nodes[:cap(all.Nodes)])
	if !slices.Equal(x.Table().Names(), want.Table().Names()) {
		t.Fatalf("%v", x.Table().Names())
	}
}

// P1: as many nodes as there may be: statements and values in one another, and side by side.
func TestMany(t *testing.T) {
	blocks, signs, calls := of(api.Block, ""), of(api.Var, "x"), of(api.Var, "a")
	wide := of(api.Block, "")
	for range tree.MaxNodes/2 - 20 {
		blocks = of(api.Block, "", blocks)
		signs = of(api.Neg, "", signs)
		calls = of(api.Get, "m", calls)
		wide.kids = append(wide.kids, of(api.Block, ""))
	}
	for _, p := range []*plant{main(blocks), main(of(api.Print, "", signs)), main(of(api.Assign, "", of(api.Var, "a"), calls)), main(wide)} {
		if x, f := Of(p.tree()); x == nil {
			t.Errorf("%v", f)
		}
	}
	last := of(api.Break, "")
	wide.kids = append(wide.kids, last)
	p := main(blocks, wide)
	if _, f := Of(p.tree()); f != (api.Fault{Code: api.ErrPlace, At: 100000 - 7*last.at}) {
		t.Errorf("%v", f)
	}
}

// P13.5: the classes are those that layer 11 tells of.
func TestTable(t *testing.T) {
	p := read(t, inMain(""))
	x, _ := Of(p)
	table, _ := class.Of(p)
	for _, name := range table.Names() {
		if !reflect.DeepEqual(x.Table().Own(name), table.Own(name)) || !slices.Equal(x.Table().Chain(name), table.Chain(name)) {
			t.Errorf("%s: %v", name, x.Table().Own(name))
		}
	}
}
