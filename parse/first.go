package parse

import (
	"caulker/api"
	"caulker/lex"
	"caulker/num"
)

// first: a value without signs, of which nothing is asked.
func (r *reader) first() int {
	switch r.token().Kind {
	case api.Number, api.Float, api.Text:
		return r.literal()
	}
	switch word := r.word(0); word {
	case "(":
		return r.within()
	case "true", "false", "null", "none", "this":
		return r.constant(word)
	case "some", "ask", "toint", "todouble":
		return r.wrapped(word)
	case "input":
		return r.input()
	case "cast":
		return r.cast()
	case "new":
		return r.anew()
	}
	from := r.from()
	return r.make(api.Node{Kind: api.Var, Text: r.name()}, from)
}

// literal: a number, a float or a text. What is wrong with it is told behind that there are too many nodes.
func (r *reader) literal() int {
	from := r.from()
	kind := r.token().Kind
	word := r.read()
	var n api.Node
	var e api.Errno
	switch kind {
	case api.Number:
		n.Kind = api.IntLit
		n.N, e = num.Int(word)
	case api.Float:
		n.Kind, n.Text = api.DoubleLit, word
		bits, wrong := num.Float(word)
		n.N, e = int64(bits), wrong
	case api.Text:
		n.Kind = api.StrLit
		n.Text, e = lex.Unquote(word)
	}
	i := r.make(n, from)
	if e != api.OK {
		fail(e, from)
	}
	return i
}

// constant: a word that is a value.
func (r *reader) constant(word string) int {
	from := r.from()
	r.want(word)
	n := api.Node{Kind: api.BoolLit}
	switch word {
	case "true":
		n.N = 1
	case "null":
		n.Kind = api.NullLit
	case "none":
		n.Kind = api.NoneLit
	case "this":
		n.Kind = api.This
	}
	return r.make(n, from)
}

// wrapped: a value in brackets, and the word ahead, which makes another one of it.
func (r *reader) wrapped(word string) int {
	from := r.from()
	r.want(word)
	n := api.Node{Kind: api.Some, Kids: []int{r.within()}}
	switch word {
	case "ask":
		n.Kind = api.Ask
	case "toint":
		n.Kind = api.ToInt
	case "todouble":
		n.Kind = api.ToDouble
	}
	return r.make(n, from)
}

// input: what the next number that is read is asked by.
func (r *reader) input() int {
	from := r.from()
	r.want("input")
	r.want("(")
	r.want(")")
	return r.make(api.Node{Kind: api.Input}, from)
}

// cast: a value as one of a type.
func (r *reader) cast() int {
	from := r.from()
	r.want("cast")
	r.want("<")
	n := r.typed()
	r.want(">")
	n.Kind, n.Kids = api.Cast, []int{r.within()}
	return r.make(n, from)
}

// anew: an object or an array that is made. An object is made of a class, without arrays and marks.
func (r *reader) anew() int {
	from := r.from()
	r.want("new")
	n := r.inner(true)
	if r.take("[") {
		n.Kind, n.Kids = api.NewArray, []int{r.value()}
		r.want("]")
		return r.make(n, from)
	}
	if r.sees("(") && !alone(n.Type) {
		fail(api.ErrForm, n.Where.From)
	}
	n.Kind, n.Kids = api.New, r.list(r.value)
	return r.make(n, from)
}

// alone: is a type a class's name alone?
func alone(t api.Type) bool {
	return t.Base == api.Class && t.Marks == string(api.Plain)
}
