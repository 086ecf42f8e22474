package parse

import (
	"caulker/api"
	"caulker/tree"
)

// A type is read as a node of which there is nothing else yet: its Type, where that stands, and where its layers end.

// answer: what a method answers: a type, or no value.
func (r *reader) answer() api.Node {
	if !r.sees("void") {
		return r.typed()
	}
	from := r.from()
	n := r.base(api.Void)
	n.Where = r.since(from)
	return n
}

// typed: a type, perhaps an option.
func (r *reader) typed() api.Node {
	from := r.from()
	if !r.take("Option") {
		return r.inner(false)
	}
	r.want("<")
	n := r.inner(false)
	r.want(">")
	if !free(n.Type) {
		fail(api.ErrForm, from)
	}
	n.Type = marked(n.Type, string(api.Optional))
	n.Where = r.since(from)
	return n
}

// inner: a type that is no option. Of one that is made anew a bracket that doesn't end at once isn't the type's: how many elements there are stands in it.
func (r *reader) inner(anew bool) api.Node {
	from := r.from()
	n := r.base(r.kind())
	for {
		switch {
		case r.sees("?"):
			r.nullable(&n)
		case r.sees("[") && !(anew && r.word(1) != "]"):
			r.array(&n)
		default:
			n.Where = r.since(from)
			return n
		}
	}
}

// kind: which base the next token is; a class's, if it is none of the language's own.
func (r *reader) kind() int {
	switch r.word(0) {
	case "int":
		return api.Int
	case "bool":
		return api.Bool
	case "double":
		return api.Double
	case "str":
		return api.Str
	}
	return api.Class
}

// base: the innermost layer of a type.
func (r *reader) base(base int) api.Node {
	n := api.Node{Type: api.Type{Base: base, Marks: string(api.Plain)}}
	if base == api.Class {
		n.Type.Name = r.name()
	} else {
		r.read()
	}
	n.Ends = []int{r.end()}
	return n
}

// nullable: the mark of a type's last layer.
func (r *reader) nullable(n *api.Node) {
	if !free(n.Type) {
		fail(api.ErrMark, r.from())
	}
	r.want("?")
	n.Type = marked(n.Type, string(api.Nullable))
}

// array: a layer more.
func (r *reader) array(n *api.Node) {
	at := r.from()
	r.want("[")
	r.want("]")
	if n.Type.Dims == tree.MaxDims {
		fail(api.ErrLong, at)
	}
	n.Type.Dims++
	n.Type.Marks += string(api.Plain)
	n.Ends = append(n.Ends, r.end())
}

// free: may the last layer of a type get a mark? It has none yet then, and isn't a number's, a bool's or a text's.
func free(t api.Type) bool {
	return t.Marks[t.Dims] == api.Plain && (t.Dims > 0 || t.Base == api.Class)
}

// marked: a type whose last layer has a mark.
func marked(t api.Type, mark string) api.Type {
	t.Marks = t.Marks[:t.Dims] + mark
	return t
}
