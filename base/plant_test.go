package base

import "caulker/api"

// plant is a node with those that it is made of in it.
type plant struct {
	node api.Node
	kids []*plant
	at   int // which node it is, once it is in a tree
}

// grow adds a plant's nodes to some, each behind those that it is made of. None begins where another one does.
func (p *plant) grow(nodes []api.Node) []api.Node {
	n := p.node
	for _, kid := range p.kids {
		nodes = kid.grow(nodes)
		n.Kids = append(n.Kids, kid.at)
	}
	p.at = len(nodes)
	n.From = 100000 - 7*p.at
	n.To = n.From + 1
	return append(nodes, n)
}

// tree is the program that a plant is.
func (p *plant) tree() api.Tree {
	nodes := p.grow(nil)
	return api.Tree{Nodes: nodes, Root: len(nodes) - 1}
}

// of is a node of a kind: of an int, if it has a type.
func of(kind int, text string, kids ...*plant) *plant {
	p := &plant{node: api.Node{Kind: kind, Text: text}, kids: kids}
	switch kind {
	case api.Field, api.Method, api.Param, api.Decl, api.New, api.NewArray, api.Cast:
		p.node.Type = plain(api.Int)
	}
	return p
}

// as gives a node a type.
func (p *plant) as(t api.Type) *plant {
	p.node.Type = t
	return p
}

// main is a Main that has a method with these statements, which answers nothing, and that is given an x, and an a of Main's own.
func main(statements ...*plant) *plant {
	begin := of(api.Method, "main", of(api.Block, "", of(api.Return, "", of(api.IntLit, ""))))
	it := of(api.Method, "it", of(api.Param, "x"), of(api.Param, "a").as(object("Main")), of(api.Block, "", statements...)).as(plain(api.Void))
	return of(api.Program, "", of(api.ClassOf, "Main", of(api.Field, "m").as(object("Main")), begin, it))
}

// object is a class's type.
func object(name string) api.Type { return api.Type{Base: api.Class, Name: name, Marks: " "} }

// smallest is a node of a kind, made of as few as may be: of these.
func smallest(kind int, kid func() *plant) *plant {
	p := of(kind, "")
	if kind == api.Var {
		p.node.Text = "x"
	}
	for range map[int]int{api.Init: 1, api.Method: 1, api.Assign: 2, api.If: 2, api.While: 2, api.Print: 1, api.Expr: 1, api.Get: 1, api.Index: 2, api.Length: 1, api.Call: 1, api.NewArray: 1, api.Neg: 1, api.Not: 1, api.Binary: 2, api.Cast: 1, api.ToInt: 1, api.ToDouble: 1, api.Ask: 1, api.Guard: 1, api.Some: 1, api.IsSome: 1, api.IsNone: 1, api.Val: 1}[kind] {
		p.kids = append(p.kids, kid())
	}
	return p
}
