package demand

import (
	"slices"
	"testing"

	"caulker/api"
	"caulker/base"
	"caulker/cfg"
	"caulker/strict"
	"caulker/tree"
)

// escapes: does a way lead out of a body on which a local isn't found not to be null?
func escapes(x *base.Info, body, slot int) bool {
	g := cfg.Of(x, body)
	seen := map[int]bool{}
	for list := []int{g.Start()}; len(list) > 0; {
		i := list[0]
		list = list[1:]
		if seen[i] {
			continue
		}
		seen[i] = true
		n := g.Node(i)
		switch {
		case n.Kind == cfg.Leave || n.Kind == cfg.End:
			return true
		case n.Kind == cfg.Test && n.Slot == slot:
			list = append(list, n.Else)
		case (n.Kind == cfg.Use || n.Kind == cfg.Must) && n.Slot == slot: // none goes on
		default:
			list = append(list, g.Then(i)...)
		}
	}
	return false
}

// alone goes by the document: is a parameter demanded by its body?
func alone(x *base.Info, param int) bool {
	n := x.Node(param)
	body := x.Within(param)
	if n.Type.Dims == 0 && n.Type.Base != api.Class || n.Type.Marks[n.Type.Dims] == api.Optional {
		return false
	}
	for node := range x.Len() {
		if a := x.Node(node); a.Kind == api.Assign && x.Within(node) == body && x.Node(a.Kids[0]).Kind == api.Var && x.Slot(a.Kids[0]) == x.Slot(param) {
			return false
		}
	}
	return !escapes(x, body, x.Slot(param))
}

// inherits: the class that comes first above a class in a program; empty, if none does.
func inherits(p api.Tree, class string) string {
	for _, n := range p.Nodes {
		if n.Kind == api.ClassOf && n.Text == class && len(n.Kids) > 0 && p.Nodes[n.Kids[0]].Kind == api.Ancestor {
			return p.Nodes[n.Kids[0]].Text
		}
	}
	return ""
}

// has: the node of a class's own method of a name; -1, if it has none.
func has(p api.Tree, class, name string) int {
	for _, n := range p.Nodes {
		for _, kid := range n.Kids {
			if n.Kind == api.ClassOf && n.Text == class && p.Nodes[kid].Kind == api.Method && p.Nodes[kid].Text == name {
				return kid
			}
		}
	}
	return -1
}

// top: the farthest class above a class (or that itself) that has a method of a name; empty, if none has.
func top(p api.Tree, class, name string) string {
	last := ""
	for ; class != ""; class = inherits(p, class) {
		if has(p, class, name) >= 0 {
			last = class
		}
	}
	return last
}

// all goes by the document: is a parameter demanded by all that may be meant?
func all(x *base.Info, p api.Tree, body base.Body, number int) bool {
	n := p.Nodes[body.Node]
	if body.Init {
		return alone(x, n.Kids[number])
	}
	for _, b := range x.Bodies() {
		o := p.Nodes[b.Node]
		if !b.Init && o.Text == n.Text && top(p, b.Owner, n.Text) == top(p, body.Owner, n.Text) && !alone(x, o.Kids[number]) {
			return false
		}
	}
	return true
}

// hold holds what is demanded in a program to the document: how many parameters are by their own bodies, and by all.
func hold(t *testing.T, x *base.Info, r *Result) (int, int) {
	t.Helper()
	p := x.Tree()
	ones, alls := map[int]bool{}, map[int]bool{}
	var places []strict.Place
	for _, b := range x.Bodies() {
		kids := p.Nodes[b.Node].Kids
		for number, param := range kids[:len(kids)-1] {
			if alone(x, param) {
				ones[param] = true
			}
			if all(x, p, b, number) {
				alls[param] = true
				places = append(places, strict.Place{Node: param, Layer: p.Nodes[param].Type.Dims})
			}
		}
	}
	for node := -2; node < x.Len()+2; node++ {
		if r.Alone(node) != ones[node] || r.Is(node) != alls[node] {
			t.Fatalf("%d: %t %t, not %t %t, of %s", node, r.Alone(node), r.Is(node), ones[node], alls[node], tree.Form(p, p.Root))
		}
	}
	slices.SortFunc(places, func(a, b strict.Place) int { return a.Node - b.Node })
	if !slices.Equal(r.Places(), places) {
		t.Fatalf("%v, not %v, of %s", r.Places(), places, tree.Form(p, p.Root))
	}
	return len(ones), len(alls)
}
