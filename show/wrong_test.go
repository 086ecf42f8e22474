package show

import (
	"math"
	"slices"
	"strings"
	"testing"

	"caulker/api"
	"caulker/parse"
	"caulker/tree"
)

// holdAny holds what is answered of a program, right or wrong, to what the document says of it.
func holdAny(t *testing.T, p api.Tree) {
	t.Helper()
	if wrong := tree.Check(p); wrong != api.OK {
		for at := -1; at <= len(p.Nodes); at++ {
			if text, e := Node(p, at); text != "" || e != wrong {
				t.Fatalf("Node %d of what isn't one: %q %d, not %d", at, text, e, wrong)
			}
		}
		if text, e := Program(p); text != "" || e != wrong {
			t.Fatalf("what isn't one: %q %d, not %d", text, e, wrong)
		}
		return
	}
	told := wrongs(p, p.Root)
	if len(told) == 0 {
		holdRight(t, p)
	} else if text, e := Program(p); text != "" || !slices.Contains(told, e) {
		t.Fatalf("%q %d, not one of %v: %s", text, e, told, tree.Form(p, p.Root))
	}
	for at, n := range p.Nodes {
		told := wrongs(p, at)
		if n.Kind == api.Program || n.Kind == api.ClassOf || n.Kind == api.Ancestor {
			told = []api.Errno{api.ErrPlace}
		}
		text, e := Node(p, at)
		if (e == api.OK) != (len(told) == 0) || (e == api.OK) != (text != "") || e != api.OK && !slices.Contains(told, e) {
			t.Fatalf("Node %d: %q %d, not one of %v: %s", at, text, e, told, tree.Form(p, at))
		}
	}
}

// spoiled is a program in which something was changed.
func (c *chance) spoiled(p api.Tree) api.Tree {
	p = tree.Clone(p)
	n := &p.Nodes[c.Intn(len(p.Nodes))]
	what := c.Intn(6)
	for range 100 {
		literal := api.IntLit <= n.Kind && n.Kind <= api.StrLit
		if what == 2 && (literal || n.Text != "") || what == 3 && hasType(n.Kind) || what == 4 && literal || what == 5 && len(n.Kids) > 0 {
			break
		}
		n = &p.Nodes[c.Intn(len(p.Nodes))]
	}
	switch what {
	case 0, 1:
		kind := 1 + c.Intn(api.Kinds-1)
		for !arity(kind, len(n.Kids)) {
			kind = 1 + c.Intn(api.Kinds-1)
		}
		kids := n.Kids
		*n = c.node(kind)
		n.Kids = kids
	case 2:
		n.Text = one(c, one(c, wrongNames...), one(c, wrongSigns...), one(c, names...), one(c, "01.5", "1.0123456789012345", "1.", "\r", "\x7f"))
	case 3:
		n.Type = c.typ(api.Method)
		if c.Intn(3) == 0 {
			n.Type = api.Type{Base: api.Class, Name: one(c, wrongNames...), Marks: " "}
		}
	case 4:
		n.N = one[int64](c, -1, 2, math.MinInt64, math.MaxInt64)
	case 5:
		other := &p.Nodes[c.Intn(len(p.Nodes))]
		if len(n.Kids) > 0 && len(other.Kids) > 0 {
			i, j := c.Intn(len(n.Kids)), c.Intn(len(other.Kids))
			n.Kids[i], other.Kids[j] = other.Kids[j], n.Kids[i]
		}
	}
	return p
}

// P9.1, P9.4, P9.5: programs in which something is wrong, perhaps several things.
func TestSpoiled(t *testing.T) {
	c := newChance(2)
	seen := map[api.Errno]int{}
	for i := range 6000 {
		p := c.program(i % 5)
		for range 1 + c.Intn(2) {
			p = c.spoiled(p)
		}
		holdAny(t, p)
		if tree.Check(p) == api.OK {
			_, e := Program(p)
			seen[e]++
		}
	}
	for _, e := range []api.Errno{api.OK, api.ErrForm, api.ErrPlace, api.ErrRange} {
		if seen[e] < 20 {
			t.Errorf("%d times %d", seen[e], e)
		}
	}
}

// P9.5: each kind in each place of each other one.
func TestPlaces(t *testing.T) {
	c := newChance(3)
	for kind := 1; kind < api.Kinds; kind++ {
		for many := range 4 {
			if !arity(kind, many) {
				continue
			}
			for i := range many {
				for other := 1; other < api.Kinds; other++ {
					holdAny(t, c.misplaced(kind, many, i, other))
				}
			}
		}
	}
}

// misplaced is a program in which the part of that number, of so many, of a node of a kind is of another one; else it is right.
func (c *chance) misplaced(kind, many, i, other int) api.Tree {
	c.nodes = nil
	n := c.node(kind)
	for j := range many {
		at := readAt(kind, j, many)
		if i == j {
			at = []int{other}
		}
		n.Kids = append(n.Kids, c.grow(0, at...))
	}
	c.nodes = append(c.nodes, n)
	at := len(c.nodes) - 1
	around := map[bool]int{true: api.Return, false: api.Block}[tree.Value(kind)]
	if tree.Value(kind) || tree.Stat(kind) {
		for _, k := range []int{around, api.Block, api.Init} {
			c.nodes = append(c.nodes, api.Node{Kind: k, Kids: []int{at}})
			at++
		}
	}
	if kind != api.ClassOf && kind != api.Program {
		c.nodes = append(c.nodes, api.Node{Kind: api.ClassOf, Text: "A", Kids: []int{at}})
		at++
	}
	if kind != api.Program {
		c.nodes = append(c.nodes, api.Node{Kind: api.Program, Kids: []int{at}})
		at++
	}
	return api.Tree{Nodes: c.nodes, Root: at}
}

// P9.5: each name, sign, text and number that may not be, wherever one is, and each that may be.
func TestWrongTexts(t *testing.T) {
	c := newChance(4)
	for kind := 1; kind < api.Kinds; kind++ {
		many := 0
		for !arity(kind, many) {
			many++
		}
		list := slices.Concat(names, wrongNames, signs, wrongSigns, floats, texts, []string{"01.5", "1.0123456789012345", "1.", ".5", "1e5", "\r", "\x00", "\x7f", "\x80"})
		for _, text := range list {
			p := c.misplaced(kind, many, -1, 0)
			at := slices.IndexFunc(p.Nodes, func(n api.Node) bool { return n.Kind == kind })
			p.Nodes[at].Text = text
			holdAny(t, p)
			if hasType(kind) {
				p = c.misplaced(kind, many, -1, 0)
				for i := range p.Nodes {
					if p.Nodes[i].Kind == kind {
						p.Nodes[i].Type = api.Type{Base: api.Class, Name: text, Marks: " "}
					}
				}
				holdAny(t, p)
			}
		}
		for _, n := range []int64{math.MinInt64, -1, 0, 1, 2, 3, math.MaxInt64} {
			p := c.misplaced(kind, many, -1, 0)
			for i := range p.Nodes {
				p.Nodes[i].N = n
			}
			holdAny(t, p)
		}
	}
}

// allTypes are types with all marks, of each base.
func allTypes() []api.Type {
	var list []api.Type
	for base := api.Int; base <= api.Void; base++ {
		for dims := range 5 {
			for _, marks := range []string{"     ", "?????", " ? ? ", "? ? ?"} {
				for _, last := range []string{" ", "?", "o"} {
					x := api.Type{Base: base, Dims: dims, Marks: marks[:dims] + last}
					if base == api.Class {
						x.Name = "A"
					} else if dims > 0 {
						x.Marks = " " + x.Marks[1:]
					}
					if tree.TypeText(x) != "" {
						list = append(list, x)
					}
				}
			}
		}
	}
	return list
}

// P9.3, P9.5: all types, wherever one is.
func TestTypes(t *testing.T) {
	c := newChance(6)
	for _, kind := range []int{api.Field, api.Method, api.Param, api.Decl, api.New, api.NewArray, api.Cast} {
		many := 0
		for !arity(kind, many) {
			many++
		}
		for _, x := range allTypes() {
			p := c.misplaced(kind, many, -1, 0)
			if kind == api.Param {
				p = api.Tree{Nodes: []api.Node{{Kind: api.Param, Text: "a"}, {Kind: api.Block}, {Kind: api.Init, Kids: []int{0, 1}}, {Kind: api.ClassOf, Text: "A", Kids: []int{2}}, {Kind: api.Program, Kids: []int{3}}}, Root: 4}
			}
			for i := range p.Nodes {
				if p.Nodes[i].Kind == kind {
					p.Nodes[i].Type = x
				}
			}
			holdAny(t, p)
		}
	}
}

// P9.1, P9.4, P9.5: what is wrong, each written out.
func TestTold(t *testing.T) {
	null := api.Node{Kind: api.NullLit}
	v := api.Node{Kind: api.Var, Text: "x"}
	class := func(name, marks string, dims int) api.Type {
		return api.Type{Base: api.Class, Name: name, Dims: dims, Marks: marks}
	}
	for i, x := range []struct {
		nodes []api.Node
		want  api.Errno
	}{
		{[]api.Node{{Kind: api.Var, Text: "if"}}, api.ErrForm},
		{[]api.Node{{Kind: api.Var}}, api.ErrForm},
		{[]api.Node{v, {Kind: api.Get, Text: "length", Kids: []int{0}}}, api.ErrForm},
		{[]api.Node{v, {Kind: api.Call, Text: "a.b", Kids: []int{0}}}, api.ErrForm},
		{[]api.Node{v, null, {Kind: api.Binary, Text: "is", Kids: []int{0, 1}}}, api.ErrForm},
		{[]api.Node{v, null, {Kind: api.Binary, Text: "=", Kids: []int{0, 1}}}, api.ErrForm},
		{[]api.Node{v, null, {Kind: api.Binary, Text: "==", Kids: []int{0, 1}}}, api.OK},
		{[]api.Node{{Kind: api.New, Type: class("A", "?", 0)}}, api.ErrForm},
		{[]api.Node{{Kind: api.New, Type: class("A", "  ", 1)}}, api.ErrForm},
		{[]api.Node{{Kind: api.New, Type: class("int", " ", 0)}}, api.ErrForm},
		{[]api.Node{{Kind: api.New, Type: api.Type{Base: api.Int, Marks: " "}}}, api.ErrForm},
		{[]api.Node{v, {Kind: api.NewArray, Type: class("A", "o", 0), Kids: []int{0}}}, api.ErrForm},
		{[]api.Node{v, {Kind: api.NewArray, Type: api.Type{Base: api.Void, Marks: " "}, Kids: []int{0}}}, api.ErrForm},
		{[]api.Node{v, {Kind: api.NewArray, Type: class("A", "?????", 4), Kids: []int{0}}}, api.OK},
		{[]api.Node{v, {Kind: api.Cast, Type: api.Type{Base: api.Void, Marks: " "}, Kids: []int{0}}}, api.ErrPlace},
		{[]api.Node{v, {Kind: api.Cast, Type: class("Option", " ", 0), Kids: []int{0}}}, api.ErrForm},
		{[]api.Node{{Kind: api.DoubleLit, Text: "1"}}, api.ErrForm},
		{[]api.Node{{Kind: api.DoubleLit, Text: "1.0123456789012345"}}, api.ErrLong},
		{[]api.Node{{Kind: api.DoubleLit, Text: "1.25", N: -9}}, api.OK},
		{[]api.Node{{Kind: api.StrLit, Text: "a\rb"}}, api.ErrSign},
		{[]api.Node{{Kind: api.IntLit, N: -1}}, api.ErrRange},
		{[]api.Node{{Kind: api.IntLit, N: math.MaxInt64}}, api.OK},
		{[]api.Node{{Kind: api.BoolLit, N: 2}}, api.ErrRange},
		{[]api.Node{{Kind: api.BoolLit, N: -1}}, api.ErrRange},
		{[]api.Node{{Kind: api.Block}}, api.ErrPlace},
		{[]api.Node{{Kind: api.Param, Text: "a", Type: class("A", " ", 0)}}, api.ErrPlace},
		{[]api.Node{{Kind: api.Program}}, api.ErrPlace},
		{[]api.Node{v, v, {Kind: api.Assign, Kids: []int{0, 1}}, {Kind: api.Not, Kids: []int{2}}}, api.ErrPlace},
	} {
		p := holding(x.nodes...)
		if text, e := Program(p); e != x.want || (text == "") != (e != api.OK) {
			t.Errorf("%d: %q %d, not %d", i, text, e, x.want)
		}
	}
	if text, e := Program(api.Tree{Nodes: []api.Node{{Kind: api.Program}}}); text != "" || e != api.OK {
		t.Errorf("without classes: %q %d", text, e)
	}
	if text, e := Program(api.Tree{}); text != "" || e != api.ErrForm {
		t.Errorf("nothing: %q %d", text, e)
	}
	if text, e := Node(api.Tree{Nodes: []api.Node{v}}, 7); text != "" || e != api.ErrForm {
		t.Errorf("of what is no program: %q %d", text, e)
	}
}

// P9.4: what is right is written, whatever is wrong elsewhere in its program.
func TestRightInWrong(t *testing.T) {
	v := api.Node{Kind: api.Var, Text: "x"}
	p := holding(v, api.Node{Kind: api.Neg, Kids: []int{0}}, api.Node{Kind: api.Var, Text: "is"}, api.Node{Kind: api.Binary, Text: "+", Kids: []int{1, 2}})
	for at, want := range []string{"x", "-x", "", "", "", "", "", "", ""} {
		text, e := Node(p, at)
		wrong := api.ErrForm
		if p.Nodes[at].Kind == api.Program || p.Nodes[at].Kind == api.ClassOf {
			wrong = api.ErrPlace
		}
		if text != want || want == "" && e != wrong || want != "" && e != api.OK {
			t.Errorf("Node %d: %q %d", at, text, e)
		}
	}
}

// nested is a program in which so many stand one in the other.
func nested(n, kind int) api.Tree {
	p := api.Tree{Nodes: []api.Node{{Kind: api.Var, Text: "x"}}}
	if kind == api.Block {
		p.Nodes[0] = api.Node{Kind: api.Break}
	}
	for i := range n {
		p.Nodes = append(p.Nodes, api.Node{Kind: kind, Kids: []int{i}})
	}
	if kind == api.Block {
		p.Nodes = append(p.Nodes, api.Node{Kind: api.Init, Kids: []int{n}}, api.Node{Kind: api.ClassOf, Text: "A", Kids: []int{n + 1}}, api.Node{Kind: api.Program, Kids: []int{n + 2}})
		p.Root = n + 3
		return p
	}
	return holding(p.Nodes...)
}

// P1, P9.1: however much stands one in the other: it is written, even if it is too deep or too long to be read.
func TestDeep(t *testing.T) {
	for _, x := range []struct {
		kind        int
		open, close string
	}{{api.Neg, "-", ""}, {api.Not, "!", ""}, {api.Guard, "", "!"}, {api.Some, "some(", ")"}, {api.IsNone, "", " is none"}} {
		for _, n := range []int{1, 50, 57, 58, 59, 100, 16378} {
			text, e := Program(nested(n, x.kind))
			want := "class A {\n  init() {\n    return " + strings.Repeat(x.open, n) + "x" + strings.Repeat(x.close, n) + ";\n  }\n}\n"
			if text != want || e != api.OK {
				t.Errorf("%d of kind %d: %d", n, x.kind, e)
			}
		}
	}
	for _, n := range []int{2, 58, 60, 61, 2000} {
		text, e := Program(nested(n, api.Block))
		var want strings.Builder
		want.WriteString("class A {\n  init() {\n")
		for i := 1; i < n; i++ {
			want.WriteString(strings.Repeat("  ", i+1) + "{\n")
		}
		want.WriteString(strings.Repeat("  ", n+1) + "break;\n")
		for i := n - 1; i > 0; i-- {
			want.WriteString(strings.Repeat("  ", i+1) + "}\n")
		}
		want.WriteString("  }\n}\n")
		if text != want.String() || e != api.OK {
			t.Errorf("%d blocks: %d", n, e)
		}
		if _, f := parse.Parse(text); (f.Code == api.OK) != (n <= 60) {
			t.Errorf("%d blocks are read: %v", n, f)
		}
	}
}

// P1: whatever is handed in is answered.
func TestWild(t *testing.T) {
	c := newChance(7)
	for range 20000 {
		var p api.Tree
		many := c.Intn(6)
		for range many {
			n := api.Node{Kind: c.Intn(50) - 2, Text: one(c, "", "", "x", "\xff", "+")}
			if c.Intn(2) == 0 {
				n.Kind = one(c, api.Program, api.Block, api.Init, api.Return, api.Neg, api.Var)
			}
			for range c.Intn(3) {
				n.Kids = append(n.Kids, c.Intn(many+2)-1)
			}
			if c.Intn(3) == 0 {
				n.Type = api.Type{Base: c.Intn(10) - 1, Name: one(c, "", "A", "\x00"), Dims: c.Intn(7) - 1, Marks: one(c, "", " ", "?", "o", "  ", "\xff")}
			}
			n.N = one[int64](c, 0, -1, math.MinInt64)
			p.Nodes = append(p.Nodes, n)
		}
		p.Root = one(c, many-1, many-1, 0, -1, many, math.MinInt, math.MaxInt)
		holdAny(t, p)
	}
}
