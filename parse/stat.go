package parse

import (
	"caulker/api"
	"caulker/lex"
)

// block: statements in brackets.
func (r *reader) block() int {
	from := r.from()
	r.enter()
	r.want("{")
	var stats []int
	for !r.take("}") {
		stats = append(stats, r.stat())
	}
	r.leave()
	return r.make(api.Node{Kind: api.Block, Kids: stats}, from)
}

// stat: a statement.
func (r *reader) stat() int {
	switch r.word(0) {
	case "{":
		return r.block()
	case "if":
		return r.branch()
	case "while":
		return r.loop()
	case "break":
		return r.short(api.Break)
	case "continue":
		return r.short(api.Continue)
	case "return":
		return r.result()
	case "print":
		return r.print()
	case "super":
		return r.super()
	}
	if r.declares() {
		return r.decl()
	}
	return r.valued()
}

// declares: does a declaration begin here?
func (r *reader) declares() bool {
	first, second := r.word(0), r.word(1)
	switch first {
	case "int", "bool", "double", "str", "Option":
		return true
	}
	return lex.Name(first) && (lex.Name(second) || second == "?" || second == "[" && r.word(2) == "]")
}

// decl: a local, perhaps with its first value.
func (r *reader) decl() int {
	from := r.from()
	n := r.typed()
	n.Kind, n.Text = api.Decl, r.name()
	if r.take("=") {
		n.Kids = []int{r.value()}
	}
	r.want(";")
	return r.make(n, from)
}

// branch: an if, perhaps with what is done else.
func (r *reader) branch() int {
	from := r.from()
	r.want("if")
	kids := []int{r.within(), r.block()}
	if r.take("else") {
		kids = append(kids, r.block())
	}
	return r.make(api.Node{Kind: api.If, Kids: kids}, from)
}

// loop: a while.
func (r *reader) loop() int {
	from := r.from()
	r.want("while")
	kids := []int{r.within(), r.block()}
	return r.make(api.Node{Kind: api.While, Kids: kids}, from)
}

// short: a statement of one word.
func (r *reader) short(kind int) int {
	from := r.from()
	r.read()
	r.want(";")
	return r.make(api.Node{Kind: kind}, from)
}

// result: a return, perhaps with a value.
func (r *reader) result() int {
	from := r.from()
	r.want("return")
	n := api.Node{Kind: api.Return}
	if !r.sees(";") {
		n.Kids = []int{r.value()}
	}
	r.want(";")
	return r.make(n, from)
}

// print: a value that is printed.
func (r *reader) print() int {
	from := r.from()
	r.want("print")
	kids := []int{r.within()}
	r.want(";")
	return r.make(api.Node{Kind: api.Print, Kids: kids}, from)
}

// super: the call of the ancestor's init.
func (r *reader) super() int {
	from := r.from()
	r.want("super")
	kids := r.list(r.value)
	r.want(";")
	return r.make(api.Node{Kind: api.Super, Kids: kids}, from)
}

// valued: a value that is assigned to, or one that is a statement.
func (r *reader) valued() int {
	from := r.from()
	first := r.value()
	kind := r.made.At(first).Kind
	if r.sees("=") {
		if kind != api.Var && kind != api.Get && kind != api.Index {
			fail(api.ErrPlace, r.from())
		}
		r.want("=")
		kids := []int{first, r.value()}
		r.want(";")
		return r.make(api.Node{Kind: api.Assign, Kids: kids}, from)
	}
	r.want(";")
	stat := r.make(api.Node{Kind: api.Expr, Kids: []int{first}}, from)
	if kind != api.Call && kind != api.New {
		fail(api.ErrPlace, from)
	}
	return stat
}
