package class

import (
	"math/rand"

	"caulker/api"
)

// plant is a node with those that it is made of in it.
type plant struct {
	node api.Node
	kids []*plant
	at   int // which node it is, once it is in a tree
}

// grow adds a plant's nodes to some, each behind those that it is made of. None begins where another one does, nor does a type.
func (p *plant) grow(nodes []api.Node) []api.Node {
	n := p.node
	for _, kid := range p.kids {
		nodes = kid.grow(nodes)
		n.Kids = append(n.Kids, kid.at)
	}
	p.at = len(nodes)
	n.From = 100000 - 7*p.at
	n.To = n.From + 1
	if n.Type.Base != api.NoType {
		n.Where.From = 200000 - 7*p.at
	}
	return append(nodes, n)
}

// tree is the program that a plant is.
func (p *plant) tree() api.Tree {
	nodes := p.grow(nil)
	return api.Tree{Nodes: nodes, Root: len(nodes) - 1}
}

// of is a node of a kind: of an int, if it has a type.
func of(kind int, text string, kids ...*plant) *plant {
	p := &plant{node: api.Node{Kind: kind, Text: text}, kids: kids}
	switch kind {
	case api.Field, api.Method, api.Param, api.Decl, api.New, api.NewArray, api.Cast:
		p.node.Type = api.Type{Base: api.Int, Marks: " "}
	}
	return p
}

// chance makes programs, the same ones each time.
type chance struct{ *rand.Rand }

// one is one of some things.
func one[T any](c chance, of ...T) T { return of[c.Intn(len(of))] }

// rarely is seldom so.
func (c chance) rarely() bool { return c.Intn(150) == 0 }

// typed gives a node a type: most often one of few, so that types are often alike.
func (c chance) typed(p *plant) *plant {
	t := &p.node.Type
	switch c.Intn(8) {
	case 0:
		*t = api.Type{Base: api.Void, Marks: " "}
	case 1, 2:
		*t = api.Type{Base: api.Class, Name: one(c, "A", "B"), Marks: one(c, " ", "?", "o")}
	case 3:
		*t = api.Type{Base: api.Class, Name: "A", Dims: 1, Marks: one(c, "  ", "? ", " ?", " o")}
	}
	if c.rarely() {
		*t = api.Type{Base: api.Class, Name: one(c, "Z", "main"), Marks: " "}
	}
	return p
}

// block is a block, in which there may be types.
func (c chance) block() *plant {
	b := of(api.Block, "")
	if c.Intn(4) == 0 {
		b.kids = append(b.kids, c.typed(of(api.Decl, "a", c.typed(of(api.Cast, "", c.typed(of(api.New, "")))))))
	}
	return b
}

// body is what a method or an init is made of: params, and a block.
func (c chance) body() []*plant {
	var kids []*plant
	if c.Intn(3) == 0 {
		kids = append(kids, c.typed(of(api.Param, one(c, "a", "b"))))
	}
	kids = append(kids, c.block())
	if c.rarely() {
		kids = append(kids, of(one(c, api.Param, api.Block, api.Field, api.Break), ""))
	}
	if c.rarely() {
		kids[0] = of(one(c, api.Param, api.Block, api.Init), "", c.block())
		if kids[0].node.Kind == api.Param {
			kids[0].kids = nil
		}
	}
	return kids
}

// member is a field, a method or an init, or, rarely, something else.
func (c chance) member() *plant {
	if c.rarely() {
		return of(one(c, api.Ancestor, api.ClassOf, api.Param, api.Block, api.Decl, api.Break, api.Var), "")
	}
	switch c.Intn(8) {
	case 0, 1, 2:
		return c.typed(of(api.Field, one(c, "f", "g", "p", "q", "r", "s", "t", "u", "v", "w", "x", "y", "z", "main", "")))
	case 3, 4, 5:
		return c.typed(of(api.Method, one(c, "f", "g", "h", "x", ""), c.body()...))
	case 6:
		return of(api.Method, "main", c.block())
	}
	return of(api.Init, "", c.body()...)
}

// program is a program in which most is right, or all.
func (c chance) program() *plant {
	p := of(api.Program, "")
	names := []string{"A", "B", "C", "Main", ""}
	for i, name := range names {
		class := of(api.ClassOf, name)
		if c.Intn(3) > 0 && i > 0 {
			class.kids = append(class.kids, of(api.Ancestor, names[c.Intn(i)]))
		} else if c.rarely() {
			class.kids = append(class.kids, of(api.Ancestor, one(c, append(names, "Z")...)))
		}
		for range c.Intn(4) {
			class.kids = append(class.kids, c.member())
		}
		p.kids = append(p.kids, class)
	}
	if c.rarely() {
		p.kids = append(p.kids, of(one(c, api.ClassOf, api.Field, api.Ancestor), "A"))
	}
	c.Shuffle(len(p.kids), func(i, j int) { p.kids[i], p.kids[j] = p.kids[j], p.kids[i] })
	return p
}
