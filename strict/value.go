package strict

import (
	"caulker/api"
	"caulker/class"
	"caulker/kind"
)

// values looks at some, in order.
func (l *looker) values(list []int) {
	for _, node := range list {
		l.value(node)
	}
}

// value looks at one, and at what it is made of: how it is seen.
func (l *looker) value(node int) sight {
	n := l.nodes[node]
	switch n.Kind {
	case api.Var:
		return l.name(node)
	case api.Get, api.Call:
		return l.member(n)
	case api.Index, api.Length:
		return l.element(node)
	case api.Binary:
		l.sign(n)
	case api.New:
		l.create(n)
	case api.NewArray:
		l.values(n.Kids)
		return l.array(node)
	case api.Cast:
		to := written(node, n.Type)
		l.given(n.Kids, to)
		return to
	case api.Ask, api.Guard, api.Some, api.Val, api.IsSome, api.IsNone:
		return l.marked(node)
	default:
		l.values(n.Kids)
	}
	return unwritten(l.Type(node))
}

// target looks at what is assigned to: of a name that is the declared type, whatever is known there.
func (l *looker) target(node int) sight {
	if l.nodes[node].Kind == api.Var {
		return l.declared(node)
	}
	return l.value(node)
}

// declared: the type of the parameter or local that a name means.
func (l *looker) declared(node int) sight {
	local := l.locals[l.Slot(node)]
	return written(local.Node, local.Type)
}

// name: what a name means; it isn't null where that is known.
func (l *looker) name(node int) sight {
	s := l.declared(node)
	if !l.facts.Holds(node) {
		return s
	}
	if kind.Outer(s.Type) == api.Nullable {
		s.Type, _ = kind.With(s.Type, api.Plain)
	}
	return s.as(s.Type)
}

// member looks at a field that is asked for, or a method that is called.
func (l *looker) member(n api.Node) sight {
	object := n.Kids[0]
	s := l.value(object)
	l.asked(object, s)
	if n.Kind == api.Get {
		m, _ := l.Table().Field(s.Name, n.Text)
		return written(m.Node, m.Type)
	}
	m, _ := l.Table().Method(s.Name, n.Text)
	l.arguments(n.Kids[1:], m)
	return written(m.Node, m.Type)
}

// element looks at an array's element, or its length.
func (l *looker) element(node int) sight {
	n, t := l.nodes[node], l.Type(node)
	s := l.value(n.Kids[0])
	l.asked(n.Kids[0], s)
	l.values(n.Kids[1:])
	if n.Kind == api.Length {
		return unwritten(t)
	}
	return s.element(t)
}

// sign looks at a sign between values: options aren't held against anything.
func (l *looker) sign(n api.Node) {
	both := [2]sight{l.value(n.Kids[0]), l.value(n.Kids[1])}
	if n.Text != "==" && n.Text != "!=" {
		return
	}
	for i, s := range both {
		l.option(n.Kids[i], s, false)
	}
}

// create looks at the arguments of a new object.
func (l *looker) create(n api.Node) {
	var m class.Member
	if n.Type.Base == api.Class {
		m, _ = l.Table().Init(n.Type.Name)
	}
	l.arguments(n.Kids, m)
}

// array: a new array, whose elements are null at first.
func (l *looker) array(node int) sight {
	of := written(node, l.nodes[node].Type)
	if bare(of.Type) {
		l.tell(Empty, node, Nowhere(), of.last)
	}
	return of.as(l.Type(node))
}

// marked looks at what asks for a value's last mark, or gives it another one.
func (l *looker) marked(node int) sight {
	n := l.nodes[node]
	value := n.Kids[0]
	s := l.value(value)
	switch n.Kind {
	case api.Ask, api.Guard:
		l.option(value, s, false)
	case api.Some:
		l.asked(value, s)
	default:
		l.option(value, s, true)
	}
	if n.Kind == api.Val && !l.facts.Holds(value) {
		l.tell(Asked, value, s.last, Nowhere())
	}
	if n.Kind == api.IsSome || n.Kind == api.IsNone {
		return unwritten(l.Type(node))
	}
	return s.as(l.Type(node))
}
