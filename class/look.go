package class

import (
	"slices"

	"caulker/api"
	"caulker/kind"
	"caulker/tree"
)

// join gives each class its ancestor.
func (x *Table) join(t api.Tree) api.Fault {
	for _, c := range x.order {
		kids := t.Nodes[c.node].Kids
		if len(kids) == 0 || t.Nodes[kids[0]].Kind != api.Ancestor {
			continue
		}
		ancestor := t.Nodes[kids[0]]
		c.parent = x.classes[ancestor.Text]
		if c.parent == nil {
			return fault(api.ErrMissing, ancestor)
		}
	}
	return api.Fault{}
}

// named: is there each class that a type names?
func (x *Table) named(t api.Tree) api.Fault {
	for _, at := range tree.Walk(t, t.Root) {
		n := t.Nodes[at]
		if n.Type.Base == api.Class && !x.Has(n.Type.Name) {
			return api.Fault{Code: api.ErrMissing, At: n.Where.From}
		}
	}
	return api.Fault{}
}

// ended: do each class's ancestors end? Who goes up as often as there are classes, and further, has come back to one.
func (x *Table) ended(t api.Tree) api.Fault {
	for _, c := range x.order {
		steps := 0
		for at := c; at != nil && !at.ends; at = at.parent {
			if steps == len(x.order) {
				return fault(api.ErrCycle, t.Nodes[c.node])
			}
			steps++
		}
		for at := c; at != nil && !at.ends; at = at.parent {
			at.ends = true
		}
	}
	return api.Fault{}
}

// apart: has each class other fields than its ancestors?
func (x *Table) apart(t api.Tree) api.Fault {
	for _, c := range x.order {
		for _, m := range c.own[fields] {
			if _, ok := c.parent.nearest(fields, m.Name); ok {
				return fault(api.ErrTwice, t.Nodes[m.Node])
			}
		}
	}
	return api.Fault{}
}

// over: is each method like the one of an ancestor that it goes over?
func (x *Table) over(t api.Tree) api.Fault {
	for _, c := range x.order {
		for _, m := range c.own[methods] {
			if under, ok := c.parent.nearest(methods, m.Name); ok && !like(m, under) {
				return fault(api.ErrOver, t.Nodes[m.Node])
			}
		}
	}
	return api.Fault{}
}

// like: have two methods the same types, but for their marks?
func like(a, b Member) bool {
	return kind.Alike(a.Type, b.Type) && slices.EqualFunc(a.Params, b.Params, kind.Alike)
}

// begun: is there a Main whose objects begin without arguments, and which has the method that is run?
func (x *Table) begun(api.Tree) api.Fault {
	main, ok := x.Method("Main", "main")
	init, _ := x.Init("Main")
	if !ok || len(main.Params) > 0 || !kind.Is(main.Type, api.Int) || len(init.Params) > 0 {
		return api.Fault{Code: api.ErrMain}
	}
	return api.Fault{}
}

// literal: is a type that of null or none?
func literal(t api.Type) bool { return t == kind.Null() || t == kind.None() }

// single: is a type a class, without arrays?
func single(t api.Type) bool { return t.Base == api.Class && t.Dims == 0 }

// Fits: may a value of a type be where one of another type is wanted, whatever their marks?
func (x *Table) Fits(a, b api.Type) bool {
	switch {
	case literal(a):
		return kind.Ref(b) && !literal(b)
	case !kind.Right(a) || !kind.Right(b) || a.Base == api.Void:
		return false
	}
	return kind.Alike(a, b) || single(a) && single(b) && x.Sub(a.Name, b.Name)
}
