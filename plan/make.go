package plan

import (
	"slices"

	"caulker/api"
	"caulker/base"
	"caulker/demand"
	"caulker/infer"
	"caulker/strict"
	"caulker/tree"
)

// legacy: a text's program, which has nothing of the strict language.
func legacy(text string) (*base.Info, api.Fault) {
	x, f := strict.Fits(text)
	if f.Code != api.OK {
		return nil, f
	}
	if node, marked := tree.Marked(x.Tree()); marked {
		return nil, api.Fault{Code: api.ErrMark, At: x.Node(node).From}
	}
	return x, api.Fault{}
}

// demanded: the places of parameters that must not be null anyhow.
func demanded(x *base.Info) ([]strict.Place, api.Fault) {
	d, f := demand.Find(x)
	if f.Code != api.OK {
		return nil, f
	}
	return d.Places(), api.Fault{}
}

// changes: marks where they were found, and guards of what may be null; in order.
func changes(x *base.Info, r *infer.Result) []Change {
	var list []Change
	for _, p := range r.Marked() {
		list = append(list, put("?", x.Node(p.Node).Ends[p.Layer], Mark, p))
	}
	for _, node := range r.Guards() {
		list = append(list, guard(x, node, Asked))
	}
	for _, node := range r.Cuts() {
		g := guard(x, node, Given)
		if !slices.ContainsFunc(list, func(c Change) bool { return c.Kind == Asked && c.Edit == g.Edit }) {
			list = append(list, g)
		}
	}
	Sort(list)
	return list
}

// guard: a guard behind a value.
func guard(x *base.Info, node, kind int) Change {
	return put("!", x.Node(node).To, kind, strict.Place{Node: node, Layer: strict.Nowhere().Layer})
}

// put: a change by which something is put in.
func put(what string, at, kind int, p strict.Place) Change {
	return Change{Edit: api.Edit{Span: api.Span{From: at, To: at}, Text: what}, Kind: kind, Place: p}
}
