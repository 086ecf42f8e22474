package base

import (
	"caulker/api"
	"caulker/class"
	"caulker/kind"
)

// value: a value's type, which is kept.
func (l *looker) value(node int) api.Type {
	l.types[node] = l.typed(node)
	return l.types[node]
}

// simple: a type that is a base alone.
func simple(base int) api.Type {
	t, _ := kind.Of(base, "", 0)
	return t
}

// typed: a value's type, found out of what it is made of.
func (l *looker) typed(node int) api.Type {
	n := l.at(node)
	switch n.Kind {
	case api.IntLit, api.Input:
		return simple(api.Int)
	case api.DoubleLit:
		return simple(api.Double)
	case api.BoolLit:
		return simple(api.Bool)
	case api.StrLit:
		return simple(api.Str)
	case api.NullLit:
		return kind.Null()
	case api.NoneLit:
		return kind.None()
	case api.This:
		return api.Type{Base: api.Class, Name: l.body.Owner, Marks: string(api.Plain)}
	case api.Var:
		return l.locals[l.Slot(node)].Type
	case api.Neg, api.Not, api.ToInt, api.ToDouble:
		return l.turned(n)
	case api.Ask, api.Guard, api.Some, api.Val, api.IsSome, api.IsNone:
		return l.marked(n)
	case api.Binary:
		return l.binary(n)
	case api.Get, api.Call:
		return l.member(node)
	case api.Index, api.Length:
		return l.element(n)
	case api.New, api.NewArray, api.Cast:
		return l.named(node)
	}
	l.fail(api.ErrPlace, node)
	return api.Type{}
}

// turned: the type of what is reckoned of a number or a truth.
func (l *looker) turned(n api.Node) api.Type {
	switch n.Kind {
	case api.ToInt:
		l.of(n.Kids[0], api.Double)
		return simple(api.Int)
	case api.ToDouble:
		l.of(n.Kids[0], api.Int)
		return simple(api.Double)
	case api.Not:
		return l.of(n.Kids[0], api.Bool)
	}
	return l.of(n.Kids[0], api.Int, api.Double)
}

// marked: the type of what asks for a value's last mark, or gives it another one.
func (l *looker) marked(n api.Node) api.Type {
	kid := n.Kids[0]
	mark := byte(api.Plain)
	switch n.Kind {
	case api.Ask:
		mark = api.Nullable
	case api.Some:
		mark = api.Optional
	case api.Val, api.IsSome, api.IsNone:
		l.want(l.at(kid).Kind == api.Var, api.ErrPlace, kid)
	}
	t, e := kind.With(l.value(kid), mark)
	l.want(e == api.OK, api.ErrKind, kid)
	if n.Kind == api.IsSome || n.Kind == api.IsNone {
		return simple(api.Bool)
	}
	return t
}

// member: the type of a field of a class, or of what a method of it answers.
func (l *looker) member(node int) api.Type {
	n := l.at(node)
	t := l.value(n.Kids[0])
	l.want(t.Base == api.Class && t.Dims == 0, api.ErrKind, n.Kids[0])
	find := l.Table().Field
	if n.Kind == api.Call {
		find = l.Table().Method
	}
	m, ok := find(t.Name, n.Text)
	l.want(ok, api.ErrMissing, node)
	l.arguments(node, n.Kids[1:], m.Params) // of a field there are neither
	return m.Type
}

// element: the type of an array's element, or of its length.
func (l *looker) element(n api.Node) api.Type {
	t, e := kind.Elem(l.value(n.Kids[0]))
	l.want(e == api.OK, api.ErrKind, n.Kids[0])
	if n.Kind == api.Length {
		return simple(api.Int)
	}
	l.of(n.Kids[1], api.Int)
	return t
}

// named: the type of what names its type.
func (l *looker) named(node int) api.Type {
	n := l.at(node)
	l.solid(node)
	switch n.Kind {
	case api.New:
		var m class.Member
		if n.Type.Base == api.Class {
			m, _ = l.Table().Init(n.Type.Name)
		}
		l.arguments(node, n.Kids, m.Params)
		return n.Type
	case api.NewArray:
		l.of(n.Kids[0], api.Int)
		t, e := kind.Array(n.Type)
		l.want(e == api.OK, e, node)
		return t
	}
	t := l.value(n.Kids[0])
	refer := kind.Ref(t) && t.Base != api.None && kind.Ref(n.Type)
	l.want(refer && l.either(t, n.Type), api.ErrKind, n.Kids[0])
	return n.Type
}

// either: does one type fit the other?
func (l *looker) either(a, b api.Type) bool {
	return l.Table().Fits(a, b) || l.Table().Fits(b, a)
}

// binary: the type of what a sign makes of two values.
func (l *looker) binary(n api.Node) api.Type {
	a, b := l.value(n.Kids[0]), l.value(n.Kids[1])
	t, ok := l.signed(n.Text, a, b)
	l.want(ok, api.ErrKind, n.Kids[1])
	return t
}

// signed: the type of what a sign makes of values of two types; false: it makes nothing of them.
func (l *looker) signed(sign string, a, b api.Type) (api.Type, bool) {
	truth := simple(api.Bool)
	switch sign {
	case "+":
		return a, same(a, b, api.Int, api.Double, api.Str)
	case "-", "*", "/":
		return a, same(a, b, api.Int, api.Double)
	case "%":
		return a, same(a, b, api.Int)
	case "<", "<=", ">", ">=":
		return truth, same(a, b, api.Int, api.Double)
	case "&&", "||":
		return truth, same(a, b, api.Bool)
	case "==", "!=":
		return truth, same(a, b, api.Int, api.Bool, api.Double, api.Str) || l.held(a, b)
	}
	return api.Type{}, false
}

// held: may values of two types be held against each other, as what they refer to?
func (l *looker) held(a, b api.Type) bool {
	if !kind.Ref(a) || !kind.Ref(b) || a.Base == api.None || b.Base == api.None {
		return false
	}
	return a.Base == api.Null || b.Base == api.Null || l.either(a, b)
}
