package eval

import "caulker/api"

// plant is a node with those that it is made of in it.
type plant struct {
	node api.Node
	kids []*plant
	at   int // which node it is, once it is in a tree
}

// grow adds a plant's nodes to some, each behind those that it is made of. None begins where another one does.
func (p *plant) grow(nodes []api.Node) []api.Node {
	n := p.node
	for _, kid := range p.kids {
		nodes = kid.grow(nodes)
		n.Kids = append(n.Kids, kid.at)
	}
	p.at = len(nodes)
	n.From = 100000 - 7*p.at
	n.To = n.From + 1
	return append(nodes, n)
}

// tree is the program that a plant is.
func (p *plant) tree() api.Tree {
	nodes := p.grow(nil)
	return api.Tree{Nodes: nodes, Root: len(nodes) - 1}
}

// of is a node of a kind: of an int, if it has a type.
func of(kind int, text string, kids ...*plant) *plant {
	p := &plant{node: api.Node{Kind: kind, Text: text}, kids: kids}
	switch kind {
	case api.Field, api.Method, api.Param, api.Decl, api.New, api.NewArray, api.Cast:
		p.node.Type = plain(api.Int)
	}
	return p
}

// as gives a node a type.
func (p *plant) as(t api.Type) *plant {
	p.node.Type = t
	return p
}

// object is a class's type.
func object(name string) api.Type { return api.Type{Base: api.Class, Name: name, Marks: " "} }

// plain is a base alone.
func plain(base int) api.Type { return api.Type{Base: base, Marks: " "} }

// number is a whole number.
func number(n int64) *plant { return &plant{node: api.Node{Kind: api.IntLit, N: n}} }

// block is a block of statements.
func block(statements ...*plant) *plant { return of(api.Block, "", statements...) }

// gives is a return.
func gives(value ...*plant) *plant { return of(api.Return, "", value...) }

// mine is Main, with more members, whose main is made of these statements.
func mine(members []*plant, statements ...*plant) *plant {
	return of(api.Program, "", of(api.ClassOf, "Main", append(members, of(api.Method, "main", block(statements...)))...))
}
