package parse

import "caulker/api"

// program reads all classes, and makes the program of them. One without classes was read of nothing, and stands nowhere.
func (r *reader) program() {
	from := r.from()
	var classes []int
	for r.token().Kind != api.End {
		r.more(len(classes))
		classes = append(classes, r.class())
	}
	if len(classes) == 0 {
		r.made.Add(api.Node{Kind: api.Program})
		return
	}
	r.make(api.Node{Kind: api.Program, Kids: classes}, from)
}

// class: a class; its ancestor's name is the first of what it is made of.
func (r *reader) class() int {
	from := r.from()
	r.want("class")
	n := api.Node{Kind: api.ClassOf, Text: r.name()}
	if r.sees("extends") {
		n.Kids = append(n.Kids, r.ancestor())
	}
	r.want("{")
	for !r.take("}") {
		r.more(len(n.Kids))
		n.Kids = append(n.Kids, r.member())
	}
	return r.make(n, from)
}

// ancestor: the name of a class's ancestor, which is read with the word ahead of it.
func (r *reader) ancestor() int {
	from := r.from()
	r.want("extends")
	return r.make(api.Node{Kind: api.Ancestor, Text: r.name()}, from)
}

// member: a field, a method, or an init.
func (r *reader) member() int {
	from := r.from()
	if r.take("init") {
		return r.body(api.Node{Kind: api.Init}, from)
	}
	n := r.answer()
	n.Text = r.name()
	if r.sees("(") {
		n.Kind = api.Method
		return r.body(n, from)
	}
	if n.Type.Base == api.Void {
		fail(api.ErrToken, from)
	}
	r.want(";")
	n.Kind = api.Field
	return r.make(n, from)
}

// body: a method or an init, with its params and its block.
func (r *reader) body(n api.Node, from int) int {
	n.Kids = r.list(r.param)
	n.Kids = append(n.Kids, r.block())
	return r.make(n, from)
}

// param: one of a method's or an init's params.
func (r *reader) param() int {
	from := r.from()
	n := r.typed()
	n.Kind, n.Text = api.Param, r.name()
	return r.make(n, from)
}
