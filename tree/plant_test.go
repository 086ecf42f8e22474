package tree

import (
	"math/rand"
	"strconv"
	"strings"

	"caulker/api"
)

// plant is a node with those that it is made of in it: what the document tells of programs is told of it once more.
type plant struct {
	node api.Node
	kids []*plant
}

// grown are a plant's nodes, each behind those that it is made of.
func (p *plant) grown(list []api.Node) []api.Node {
	n := clone(p.node)
	for _, kid := range p.kids {
		list = kid.grown(list)
		n.Kids = append(n.Kids, len(list)-1)
	}
	return append(list, n)
}

// tree is the program that a plant is.
func (p *plant) tree() api.Tree {
	list := p.grown(nil)
	return api.Tree{Nodes: list, Root: len(list) - 1}
}

// size is how many nodes a plant has.
func (p *plant) size() int {
	n := 1
	for _, kid := range p.kids {
		n += kid.size()
	}
	return n
}

// deep is how many nodes stand one in the other.
func (p *plant) deep() int {
	n := 0
	for _, kid := range p.kids {
		n = max(n, kid.deep())
	}
	return n + 1
}

// form is what the document tells of a form.
func (p *plant) form() string {
	words := []string{Name(p.node.Kind)}
	if has(p.node.Kind, "text") {
		words = append(words, strconv.Quote(p.node.Text))
	}
	if has(p.node.Kind, "type") {
		words = append(words, TypeText(p.node.Type))
	}
	if words[0] == "int" || words[0] == "bool" {
		words = append(words, strconv.Itoa(int(p.node.N)))
	}
	for _, kid := range p.kids {
		words = append(words, kid.form())
	}
	return "(" + strings.Join(words, " ") + ")"
}

// marked is the first plant that is of the strict language alone, of all in their order; nil, if there is none.
func (p *plant) marked() *plant {
	switch Name(p.node.Kind) {
	case "guard", "some", "none", "issome", "isnone", "val":
		return p
	}
	if strings.ContainsAny(p.node.Type.Marks, "?o") {
		return p
	}
	for _, kid := range p.kids {
		if m := kid.marked(); m != nil {
			return m
		}
	}
	return nil
}

// erased is the plant that is left.
func (p *plant) erased() *plant {
	e := &plant{node: p.node}
	for _, kid := range p.kids {
		e.kids = append(e.kids, kid.erased())
	}
	e.node.Type.Marks = strings.NewReplacer("?", " ", "o", " ").Replace(p.node.Type.Marks)
	switch Name(p.node.Kind) {
	case "guard", "some", "val":
		return e.kids[0]
	case "none":
		e.node.Kind = api.NullLit
	case "issome":
		e.node.Kind, e.node.Text = api.Binary, "!="
	case "isnone":
		e.node.Kind, e.node.Text = api.Binary, "=="
	}
	if strings.HasPrefix(Name(p.node.Kind), "is") {
		e.kids = append(e.kids, &plant{node: api.Node{Kind: api.NullLit}})
	}
	return e
}

// chance makes plants, the same ones each time.
type chance struct {
	*rand.Rand
	types []api.Type
}

func newChance(seed int64) *chance {
	c := &chance{Rand: rand.New(rand.NewSource(seed))}
	for dims := range 5 {
		for _, marks := range []string{"     ", "?????", " ? ? "} {
			c.types = append(c.types, api.Type{Base: api.Class, Name: "A", Dims: dims, Marks: marks[:dims+1]}, api.Type{Base: api.Int, Dims: dims, Marks: " " + marks[1:dims+1]})
		}
		c.types = append(c.types, api.Type{Base: api.Class, Name: "B", Dims: dims, Marks: "    "[:dims] + "o"})
	}
	c.types = append(c.types, api.Type{Base: api.Void, Marks: " "})
	return c
}

// node is a node of a kind, with what it has; strict: marks may be in it.
func (c *chance) node(kind int, strict bool) api.Node {
	n := api.Node{Kind: kind, Span: api.Span{From: c.Intn(100), To: c.Intn(100)}}
	if has(kind, "text") {
		n.Text = []string{"", "x", "+", "a\"b\\\n\x00\xff\u00e4", "(var \"x\")"}[c.Intn(5)]
	}
	if has(kind, "type") {
		n.Type = c.types[c.Intn(len(c.types))]
		if !strict {
			n.Type.Marks = "     "[:len(n.Type.Marks)]
		}
		n.Where = api.Span{From: c.Intn(100), To: c.Intn(100)}
		n.Ends = []int{c.Intn(100)}
	}
	n.N = []int64{0, 1, -1, 7, 1<<63 - 1, -1 << 63}[c.Intn(6)]
	return n
}

// plant is one of some kind, so deep at most.
func (c *chance) plant(kind, deep int, strict bool) *plant {
	p := &plant{node: c.node(kind, strict)}
	kids := c.Intn(4)
	for !made(kind, kids) {
		kids = c.Intn(4)
	}
	for range kids {
		p.kids = append(p.kids, c.plant(c.kind(deep-1, strict), deep-1, strict))
	}
	return p
}

// kind is one that may be so deep; none of the strict language alone, if it isn't to be strict.
func (c *chance) kind(deep int, strict bool) int {
	for {
		kind := 1 + c.Intn(api.Kinds-1)
		if deep <= 1 && !made(kind, 0) || !strict && kind >= api.Guard {
			continue
		}
		if deep <= 1 && (made(kind, 1) || made(kind, 3)) {
			kind = api.Var
		}
		return kind
	}
}

// program is a program of plants, so deep at most.
func (c *chance) program(deep int, strict bool) *plant {
	p := &plant{node: c.node(api.Program, strict)}
	for range c.Intn(4) {
		p.kids = append(p.kids, c.plant(c.kind(deep, strict), deep, strict))
	}
	return p
}
