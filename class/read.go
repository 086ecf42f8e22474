package class

import (
	"strings"

	"caulker/api"
)

// fault: what is wrong, told where a node begins.
func fault(code api.Errno, n api.Node) api.Fault { return api.Fault{Code: code, At: n.From} }

// read takes in the classes, one by one; or tells what is wrong in one of them, whatever the others are.
func (x *Table) read(t api.Tree) api.Fault {
	for _, at := range t.Nodes[t.Root].Kids {
		n := t.Nodes[at]
		switch {
		case n.Kind != api.ClassOf:
			return fault(api.ErrPlace, n)
		case x.Has(n.Text):
			return fault(api.ErrTwice, n)
		}
		c := &kin{name: strings.Clone(n.Text), node: at}
		if f := c.read(t.Nodes); f.Code != api.OK {
			return f
		}
		x.classes[c.name] = c
		x.order = append(x.order, c)
	}
	return api.Fault{}
}

// read takes in what a class has of its own.
func (c *kin) read(nodes []api.Node) api.Fault {
	for i, at := range nodes[c.node].Kids {
		if i == 0 && nodes[at].Kind == api.Ancestor {
			continue
		}
		if f := c.member(nodes, at); f.Code != api.OK {
			return f
		}
	}
	return c.place(nodes)
}

// sortOf: of which sort a node of a kind is; false: of none.
func sortOf(kind int) (int, bool) {
	switch kind {
	case api.Field:
		return fields, true
	case api.Method:
		return methods, true
	case api.Init:
		return inits, true
	}
	return 0, false
}

// member takes in a field, a method or an init.
func (c *kin) member(nodes []api.Node, at int) api.Fault {
	n := nodes[at]
	sort, ok := sortOf(n.Kind)
	if !ok {
		return fault(api.ErrPlace, n)
	}
	m := Member{Owner: c.name, Name: n.Text, Node: at, Type: n.Type}
	for i, kid := range n.Kids {
		want := api.Param
		if i == len(n.Kids)-1 {
			want = api.Block
		}
		if nodes[kid].Kind != want {
			return fault(api.ErrPlace, nodes[kid])
		}
		if want == api.Param {
			m.Params = append(m.Params, nodes[kid].Type)
		}
	}
	c.own[sort] = append(c.own[sort], m.copy())
	return api.Fault{}
}

// place notes where the member of each name is; or tells the first one of a sort that has an earlier one's name. All inits have the same name, which is none.
func (c *kin) place(nodes []api.Node) api.Fault {
	for sort, list := range c.own {
		places := map[string]int{}
		for i, m := range list {
			if _, ok := places[m.Name]; ok {
				return fault(api.ErrTwice, nodes[m.Node])
			}
			places[m.Name] = i
		}
		c.places[sort] = places
	}
	return api.Fault{}
}
