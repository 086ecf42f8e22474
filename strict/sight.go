package strict

import (
	"caulker/api"
	"caulker/kind"
)

// sight is a type as it is seen here: with the places where its layers' marks are from.
type sight struct {
	api.Type
	inner Place // of the innermost layer; of those around it, but for the last one, it is the same node, or nowhere
	last  Place
}

// written: a type as it stands at a node.
func written(node int, t api.Type) sight {
	return sight{Type: t, inner: Place{Node: node}, last: Place{Node: node, Layer: t.Dims}}
}

// unwritten: a type that stands nowhere.
func unwritten(t api.Type) sight {
	return sight{Type: t, inner: Nowhere(), last: Nowhere()}
}

// place: where a layer's mark is from.
func (s sight) place(layer int) Place {
	switch {
	case layer == s.Dims:
		return s.last
	case s.inner == Nowhere():
		return Nowhere()
	}
	return Place{Node: s.inner.Node, Layer: layer}
}

// as: what has these layers, but for another mark at the last one, which is from nowhere.
func (s sight) as(t api.Type) sight {
	return sight{Type: t, inner: s.inner, last: Nowhere()}
}

// element: an array's element, which is of this type.
func (s sight) element(t api.Type) sight {
	return sight{Type: t, inner: s.inner, last: s.place(t.Dims)}
}

// comes tells what is wrong, at a node, where what is seen so comes to a type; may it be null, and that may not, this is what is wrong. Types whose values refer to nothing have no marks, and so nothing wrong.
func (l *looker) comes(what, at int, s, want sight) {
	is, may := kind.Outer(s.Type), kind.Outer(want.Type)
	switch {
	case (is == api.Optional) != (may == api.Optional):
		l.tell(Option, at, s.last, want.last)
	case is == api.Nullable && may == api.Plain:
		l.tell(what, at, s.last, want.last)
	}
	if s.Dims != want.Dims {
		return
	}
	for layer := range want.Dims {
		if s.Marks[layer] != want.Marks[layer] {
			l.tell(Differ, at, s.place(layer), want.place(layer))
		}
	}
}

// asked tells what is wrong with a value of which something is asked.
func (l *looker) asked(node int, s sight) {
	switch kind.Outer(s.Type) {
	case api.Nullable:
		l.tell(Asked, node, s.last, Nowhere())
	case api.Optional:
		l.tell(Option, node, s.last, Nowhere())
	}
}

// option tells of a value that is an option where none may be, or none where one must.
func (l *looker) option(node int, s sight, must bool) {
	if (kind.Outer(s.Type) == api.Optional) != must {
		l.tell(Option, node, s.last, Nowhere())
	}
}
