package show

import (
	"math"
	"math/rand"
	"slices"
	"strings"

	"caulker/api"
	"caulker/num"
	"caulker/tree"
)

// Kinds of which one stands at a place.
var (
	members = []int{api.Field, api.Init, api.Method}
	stats   = []int{api.Block, api.Decl, api.Assign, api.If, api.While, api.Break, api.Continue, api.Return, api.Print, api.Super, api.Expr}
	values  = []int{api.IntLit, api.DoubleLit, api.BoolLit, api.StrLit, api.NullLit, api.This, api.Var, api.Get, api.Index, api.Length, api.Call, api.New, api.NewArray, api.Neg, api.Not, api.Binary, api.Cast, api.ToInt, api.ToDouble, api.Input, api.Ask, api.Guard, api.Some, api.NoneLit, api.IsSome, api.IsNone, api.Val}
)

// readAt are the kinds of which layer 8 reads one as the part of that number, of so many, of a node of a kind.
func readAt(kind, i, many int) []int {
	switch {
	case kind == api.Program:
		return []int{api.ClassOf}
	case kind == api.ClassOf && i == 0:
		return append([]int{api.Ancestor}, members...)
	case kind == api.ClassOf:
		return members
	case (kind == api.Init || kind == api.Method) && i < many-1:
		return []int{api.Param}
	case kind == api.Init || kind == api.Method || i > 0 && (kind == api.If || kind == api.While):
		return []int{api.Block}
	case kind == api.Block:
		return stats
	case kind == api.Assign && i == 0:
		return []int{api.Var, api.Get, api.Index}
	case kind == api.Expr:
		return []int{api.Call, api.New}
	}
	return values
}

// The names, signs, texts and types that there are: right ones, and wrong ones.
var (
	names      = []string{"a", "A", "B", "x", "abc", "_", "x9", "Main", "length_", "iff", strings.Repeat("w", 64)}
	wrongNames = []string{"", "if", "val", "length", "void", "is", "9x", "a b", "a.b", "A?", "A[]", "\"a\"", "\xff", "ä", "a\n", strings.Repeat("w", 65)}
	signs      = []string{"||", "&&", "==", "!=", "<", "<=", ">", ">=", "+", "-", "*", "/", "%"}
	wrongSigns = []string{"", "=", "!", "is", "is some", ".", "&", "|", "===", " +", "+ ", "++", "//", ",", "a"}
	floats     = []string{"0.0", "1.50", "3.14159265358979", "12345678901234.5"}
	texts      = []string{"", "a b", "\n\t\"\\", "// }", "~ "}
)

// hasName is whether a kind's Text is a name.
func hasName(kind int) bool {
	return slices.Contains([]int{api.ClassOf, api.Ancestor, api.Field, api.Method, api.Param, api.Decl, api.Var, api.Get, api.Call}, kind)
}

// hasType is whether a kind has a Type.
func hasType(kind int) bool {
	return slices.Contains([]int{api.Field, api.Method, api.Param, api.Decl, api.New, api.NewArray, api.Cast}, kind)
}

// wrongOf is each error that is told of a node: of what it is itself, and of the places of what it is made of.
func wrongOf(t api.Tree, at int) []api.Errno {
	var list []api.Errno
	n := t.Nodes[at]
	for i, kid := range n.Kids {
		if !slices.Contains(readAt(n.Kind, i, len(n.Kids)), t.Nodes[kid].Kind) {
			list = append(list, api.ErrPlace)
		}
	}
	if hasName(n.Kind) && !slices.Contains(names, n.Text) || hasType(n.Kind) && n.Type.Base == api.Class && !slices.Contains(names, n.Type.Name) || n.Kind == api.Binary && !slices.Contains(signs, n.Text) {
		list = append(list, api.ErrForm)
	}
	if hasType(n.Kind) && n.Type.Base == api.Void && n.Kind != api.Method {
		list = append(list, api.ErrPlace)
	}
	if written := tree.TypeText(n.Type); n.Kind == api.New && written != n.Type.Name || n.Kind == api.NewArray && (written == "void" || strings.HasPrefix(written, "Option<")) {
		list = append(list, api.ErrForm)
	}
	switch _, e := num.Float(n.Text); {
	case n.Kind == api.DoubleLit && e != api.OK:
		list = append(list, e)
	case n.Kind == api.StrLit && strings.ContainsFunc(n.Text, func(c rune) bool { return c != '\n' && c != '\t' && (c < ' ' || c > '~') }):
		list = append(list, api.ErrSign)
	case n.Kind == api.IntLit && n.N < 0 || n.Kind == api.BoolLit && n.N != 0 && n.N != 1:
		list = append(list, api.ErrRange)
	}
	return list
}

// wrongs is each error that is told of a node and of what it is made of.
func wrongs(t api.Tree, at int) []api.Errno {
	var list []api.Errno
	for _, i := range tree.Walk(t, at) {
		list = append(list, wrongOf(t, i)...)
	}
	return list
}

// chance makes programs, the same ones each time.
type chance struct {
	*rand.Rand
	nodes []api.Node
}

func newChance(seed int64) *chance { return &chance{Rand: rand.New(rand.NewSource(seed))} }

// one is one of some things.
func one[T any](c *chance, of ...T) T { return of[c.Intn(len(of))] }

// typ is a type that may stand in a node of a kind.
func (c *chance) typ(kind int) api.Type {
	if kind == api.New {
		return api.Type{Base: api.Class, Name: one(c, names...), Marks: " "}
	}
	if kind == api.Method && c.Intn(3) == 0 {
		return api.Type{Base: api.Void, Marks: " "}
	}
	t := api.Type{Base: 1 + c.Intn(5), Dims: max(0, c.Intn(8)-3)}
	for i := range t.Dims + 1 {
		t.Marks += one(c, " ", "?")
		if i == 0 && t.Base != api.Class {
			t.Marks = " "
		}
	}
	if t.Base == api.Class {
		t.Name = one(c, names...)
	}
	if kind != api.NewArray && (t.Base == api.Class || t.Dims > 0) && c.Intn(4) == 0 {
		t.Marks = t.Marks[:t.Dims] + "o"
	}
	return t
}

// node is a node of a kind, right, but made of nothing yet; what a kind's text doesn't hang on is whatever it may be.
func (c *chance) node(kind int) api.Node {
	n := api.Node{Kind: kind, Span: api.Span{From: c.Intn(9) - 4, To: c.Intn(9)}, N: one[int64](c, 0, 1, -1, 7)}
	if hasName(kind) {
		n.Text = one(c, names...)
	}
	if hasType(kind) {
		n.Type = c.typ(kind)
		n.Ends, n.Where = []int{c.Intn(9)}, n.Span
	}
	switch kind {
	case api.IntLit:
		n.N = one[int64](c, 0, 1, 42, math.MaxInt64)
	case api.BoolLit:
		n.N = int64(c.Intn(2))
	case api.DoubleLit:
		n.Text = one(c, floats...)
	case api.StrLit:
		n.Text = one(c, texts...)
	case api.Binary:
		n.Text = one(c, signs...)
	}
	return n
}

// leaf is whether a kind may be made of nothing.
func leaf(kind int) bool {
	return slices.Contains([]int{api.Field, api.Block, api.Decl, api.Break, api.Continue, api.Return, api.Super, api.IntLit, api.DoubleLit, api.BoolLit, api.StrLit, api.NullLit, api.This, api.Var, api.New, api.Input, api.NoneLit}, kind)
}

// many is of how many nodes one of a kind is made, perhaps.
func (c *chance) many(kind, deep int) int {
	n := 0
	for {
		n = c.Intn(5)
		if kind == api.Assign || kind == api.Index || kind == api.Binary || kind == api.While {
			n = 2
		}
		if arity(kind, n) && (deep > 0 || n == 0 || !leaf(kind)) {
			return n
		}
	}
}

// arity is whether a node of a kind may be made of so many: layer 7 says so.
func arity(kind, many int) bool {
	t := api.Tree{}
	for range many {
		t.Nodes = append(t.Nodes, api.Node{Kind: api.Break})
	}
	n := api.Node{Kind: kind}
	if hasType(kind) {
		n.Type = api.Type{Base: api.Int, Marks: " "}
	}
	for i := range many {
		n.Kids = append(n.Kids, i)
	}
	t.Nodes = append(t.Nodes, n, api.Node{Kind: api.Program, Kids: []int{many}})
	t.Root = many + 1
	return tree.Check(t) == api.OK
}

// grow adds a node of one of some kinds, and all that it is made of; beyond so many in one another they are as small as can be.
func (c *chance) grow(deep int, kinds ...int) int {
	kind := one(c, kinds...)
	for deep <= 0 && slices.ContainsFunc(kinds, leaf) && !leaf(kind) {
		kind = one(c, kinds...)
	}
	n := c.node(kind)
	many := c.many(kind, deep)
	for i := range many {
		at := readAt(kind, i, many)
		if kind == api.Init || kind == api.Method || kind == api.ClassOf || kind == api.Program {
			n.Kids = append(n.Kids, c.grow(deep, at...))
		} else {
			n.Kids = append(n.Kids, c.grow(deep-1, at...))
		}
	}
	c.nodes = append(c.nodes, n)
	return len(c.nodes) - 1
}

// program is a right program.
func (c *chance) program(deep int) api.Tree {
	c.nodes = nil
	for {
		root := c.grow(deep, api.Program)
		if len(c.nodes) < 1500 {
			return api.Tree{Nodes: c.nodes, Root: root}
		}
		c.nodes = nil
	}
}

// holding is a program in which a value is returned; its nodes are the first ones, the value is the last of these.
func holding(nodes ...api.Node) api.Tree {
	n := len(nodes)
	list := append(slices.Clone(nodes),
		api.Node{Kind: api.Return, Kids: []int{n - 1}},
		api.Node{Kind: api.Block, Kids: []int{n}},
		api.Node{Kind: api.Init, Kids: []int{n + 1}},
		api.Node{Kind: api.ClassOf, Text: "A", Kids: []int{n + 2}},
		api.Node{Kind: api.Program, Kids: []int{n + 3}})
	return api.Tree{Nodes: list, Root: n + 4}
}
