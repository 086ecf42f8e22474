package plan

import (
	"slices"
	"testing"

	"caulker/api"
	"caulker/demand"
	"caulker/infer"
	"caulker/strict"
	"caulker/tree"
)

// wanted goes by the document: the changes of a text's plan, how many places are shut, or what is wrong.
func wanted(text string, guards, demands bool) ([]Change, int, api.Fault) {
	x, f := strict.Fits(text)
	if f != (api.Fault{}) {
		return nil, 0, f
	}
	for _, node := range tree.Walk(x.Tree(), x.Tree().Root) {
		n := x.Node(node)
		if n.Type != (api.Type{}) && !tree.Plain(n.Type) || slices.Contains([]int{api.Guard, api.Some, api.NoneLit, api.IsSome, api.IsNone, api.Val}, n.Kind) {
			return nil, 0, api.Fault{Code: api.ErrMark, At: n.From}
		}
	}
	var shut []strict.Place
	if guards && demands {
		d, f := demand.Find(x)
		if d == nil {
			return nil, 0, f
		}
		shut = d.Places()
	}
	r, f := infer.Solve(x, guards, shut...)
	if r == nil {
		return nil, 0, f
	}
	var list []Change
	nodes := x.Tree().Nodes
	for at := range len(text) + 1 {
		for node, n := range nodes {
			if n.To != at && !slices.Contains(n.Ends, at) {
				continue
			}
			for layer, end := range n.Ends {
				if end == at && slices.Contains(r.Marked(), strict.Place{Node: node, Layer: layer}) {
					list = append(list, Change{api.Edit{Span: api.Span{From: at, To: at}, Text: "?"}, 1, strict.Place{Node: node, Layer: layer}})
				}
			}
			asked, given := slices.Contains(r.Guards(), node), slices.Contains(r.Cuts(), node)
			if asked && !guards {
				return nil, 0, api.Fault{Code: api.ErrGuard, At: x.Node(r.Guards()[0]).From}
			}
			for kind, is := range []bool{2: asked, 3: given && !asked} {
				if is && n.To == at {
					list = append(list, Change{api.Edit{Span: api.Span{From: at, To: at}, Text: "!"}, kind, strict.Place{Node: node, Layer: -1}})
				}
			}
		}
	}
	return list, len(shut), api.Fault{}
}

// with is a text with the changes put in.
func with(text string, list []Change) string {
	made := ""
	for i := range len(text) + 1 {
		for _, c := range list {
			if c.From == i {
				made += c.Text
			}
		}
		made += text[i:min(i+1, len(text))]
	}
	return made
}

// hold holds a text's plan to the document; its changes.
func hold(t *testing.T, text string, guards, demands bool) []Change {
	t.Helper()
	want, shut, wrong := wanted(text, guards, demands)
	p, f := Make(text, guards, demands)
	if f != wrong || (p == nil) != (f != api.Fault{}) {
		t.Fatalf("%v, not %v, of %s", f, wrong, text)
	}
	if p == nil {
		return nil
	}
	list := p.Changes()
	if !slices.Equal(list, want) || p.Demands() != shut {
		t.Fatalf("%v, not %v, of %s", list, want, text)
	}
	made, e := p.Text()
	if e != api.OK || made != with(text, list) {
		t.Fatalf("%v: %s, not %s", e, made, with(text, list))
	}
	y, ok := Program(text, list)
	z, fault := strict.Program(made)
	if y == nil || !ok || z == nil || !tree.Same(y.Tree(), z.Tree()) {
		t.Fatalf("%v: %s", fault, made)
	}
	if !tree.Same(tree.Erase(y.Tree()), fits(t, text).Tree()) {
		t.Fatalf("of %s it is %s", text, made)
	}
	return list
}
