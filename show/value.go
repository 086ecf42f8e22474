package show

import (
	"strconv"

	"caulker/api"
	"caulker/lex"
	"caulker/num"
	"caulker/tree"
)

// How close values bind that have signs: the signs between values bind from 1 on.
const (
	tested  = 4 // as `<` does
	ahead   = 7
	closest = 8 // of what has no sign between or ahead
)

// between: how close a sign between values binds; 0: it is none.
func between(sign string) int {
	switch sign {
	case "||":
		return 1
	case "&&":
		return 2
	case "==", "!=":
		return 3
	case "<", "<=", ">", ">=":
		return tested
	case "+", "-":
		return 5
	case "*", "/", "%":
		return 6
	}
	return 0
}

// binds: how close a value binds.
func binds(n api.Node) int {
	switch n.Kind {
	case api.Binary:
		return between(n.Text)
	case api.IsSome, api.IsNone:
		return tested
	case api.Neg, api.Not:
		return ahead
	}
	return closest
}

// close writes a value that must bind as close as that at least: in brackets, if it doesn't.
func (w *writer) close(at, least int) {
	if binds(w.nodes[at]) < least {
		w.list([]int{at}, w.value)
		return
	}
	w.value(at)
}

// value writes a value.
func (w *writer) value(at int) {
	n := w.nodes[at]
	switch n.Kind {
	case api.IntLit, api.DoubleLit, api.BoolLit, api.StrLit:
		w.literal(n)
	case api.NullLit, api.NoneLit, api.This:
		w.WriteString(tree.Name(n.Kind))
	case api.Var:
		w.name(n.Text)
	case api.New, api.NewArray:
		w.anew(n)
	case api.Cast, api.ToInt, api.ToDouble, api.Ask, api.Some, api.Input:
		w.wrapped(n)
	case api.Neg, api.Not, api.Binary, api.IsSome, api.IsNone:
		w.signed(n)
	case api.Get, api.Index, api.Length, api.Call, api.Guard, api.Val:
		w.asked(n)
	default:
		w.refuse(api.ErrPlace)
	}
}

// literal writes a number, a bool or a text.
func (w *writer) literal(n api.Node) {
	text, wrong := said(n)
	if wrong != api.OK {
		w.refuse(wrong)
	}
	w.WriteString(text)
}

// said: how a number, a bool or a text is written, or why it may not be.
func said(n api.Node) (string, api.Errno) {
	switch {
	case n.Kind == api.DoubleLit:
		_, wrong := num.Float(n.Text)
		return n.Text, wrong
	case n.Kind == api.StrLit:
		return lex.Quote(n.Text)
	case n.N < 0 || n.Kind == api.BoolLit && n.N > 1:
		return "", api.ErrRange
	case n.Kind == api.BoolLit:
		return strconv.FormatBool(n.N == 1), api.OK
	}
	return strconv.FormatInt(n.N, 10), api.OK
}

// anew writes what is made anew: an object of a class without arrays and marks, or an array, whose elements are no options.
func (w *writer) anew(n api.Node) {
	mark := n.Type.Marks[n.Type.Dims]
	object := n.Type.Base == api.Class && n.Type.Dims == 0 && mark == api.Plain
	array := n.Type.Base != api.Void && mark != api.Optional
	if n.Kind == api.New && !object || n.Kind == api.NewArray && !array {
		w.refuse(api.ErrForm)
	}
	w.WriteString("new ")
	w.typed(n)
	if n.Kind == api.New {
		w.list(n.Kids, w.value)
		return
	}
	w.index(n.Kids[0])
}

// index writes a number in an array's brackets.
func (w *writer) index(at int) {
	w.WriteByte('[')
	w.value(at)
	w.WriteByte(']')
}

// wrapped writes what has a word of its own ahead of brackets.
func (w *writer) wrapped(n api.Node) {
	w.WriteString(tree.Name(n.Kind))
	if n.Kind == api.Cast {
		w.WriteByte('<')
		w.typed(n)
		w.WriteByte('>')
	}
	w.list(n.Kids, w.value)
}

// signed writes a value that has a sign ahead, or between its values, or an `is`. Of signs between that bind alike the first one is within the others.
func (w *writer) signed(n api.Node) {
	least := binds(n)
	switch n.Kind {
	case api.Neg:
		w.WriteByte('-')
	case api.Not:
		w.WriteByte('!')
	}
	w.close(n.Kids[0], least)
	switch n.Kind {
	case api.IsSome:
		w.WriteString(" is some")
	case api.IsNone:
		w.WriteString(" is none")
	case api.Binary:
		if least == 0 {
			w.refuse(api.ErrForm)
		}
		w.WriteString(" " + n.Text + " ")
		w.close(n.Kids[1], least+1)
	}
}

// asked writes a value, and what is asked of it.
func (w *writer) asked(n api.Node) {
	w.close(n.Kids[0], closest)
	switch n.Kind {
	case api.Guard:
		w.WriteByte('!')
	case api.Index:
		w.index(n.Kids[1])
	case api.Length, api.Val:
		w.WriteString("." + tree.Name(n.Kind))
	case api.Get, api.Call:
		w.WriteByte('.')
		w.name(n.Text)
		if n.Kind == api.Call {
			w.list(n.Kids[1:], w.value)
		}
	}
}
