package option

import (
	"slices"
	"sort"
	"testing"

	"caulker/api"
	"caulker/base"
	"caulker/edit"
	"caulker/flow"
	"caulker/plan"
	"caulker/strict"
	"caulker/tree"
)

// around is of each node the one that is made of it.
func around(p api.Tree) map[int]int {
	up := map[int]int{}
	for node, n := range p.Nodes {
		for _, kid := range n.Kids {
			up[kid] = node
		}
	}
	return up
}

// checks: does a value hold the local of a number against null?
func checks(x *base.Info, node, slot int) bool {
	n := x.Node(node)
	if n.Kind != api.Binary || n.Text != "==" && n.Text != "!=" {
		return false
	}
	for i, kid := range n.Kids {
		if x.Node(kid).Kind == api.Var && x.Slot(kid) == slot && x.Node(n.Kids[1-i]).Kind == api.NullLit {
			return true
		}
	}
	return false
}

// mark is a type's last mark.
func mark(t api.Type) byte { return t.Marks[len(t.Marks)-1] }

// wanted goes by the document: is a local Closed, and what are its changes?
func wanted(x *base.Info, body, slot int) (bool, []plan.Change) {
	facts := flow.Solve(x, body, false)
	p := x.Tree()
	up := around(p)
	declared := false
	var list []plan.Change
	put := func(node, from, to int, text string) {
		list = append(list, plan.Change{Edit: api.Edit{Span: api.Span{From: from, To: to}, Text: text}, Kind: 5, Place: strict.Place{Node: node, Layer: -1}})
	}
	for node, n := range p.Nodes {
		if x.Within(node) != body {
			continue
		}
		value := -1
		switch {
		case n.Kind == api.Decl && x.Slot(node) == slot:
			if mark(n.Type) != '?' || len(n.Kids) == 0 {
				return false, nil
			}
			declared = true
			value = n.Kids[0]
			put(node, n.Where.From, n.Where.From, "Option<")
			put(node, n.Ends[n.Type.Dims], n.Where.To, ">")
		case n.Kind == api.Assign && p.Nodes[n.Kids[0]].Kind == api.Var && x.Slot(n.Kids[0]) == slot:
			value = n.Kids[1]
		case n.Kind == api.Var && x.Slot(node) == slot:
			above := p.Nodes[up[node]]
			if above.Kind == api.Assign && above.Kids[0] == node || checks(x, up[node], slot) {
				continue
			}
			if above.Kind == api.Guard || !facts.Holds(node) {
				return false, nil
			}
			put(node, n.To, n.To, ".val")
		case checks(x, node, slot):
			is := map[string]string{"==": " is none", "!=": " is some"}[n.Text]
			first, name := p.Nodes[n.Kids[0]], ""
			for _, kid := range n.Kids {
				name += p.Nodes[kid].Text
			}
			if first.From > n.From {
				name = " " + name
			}
			put(node, n.From, n.To, name+is)
		}
		if value < 0 {
			continue
		}
		v := p.Nodes[value]
		if v.Kind == api.NullLit {
			put(value, v.From, v.To, "none")
			continue
		}
		how, other := flow.Source(x, value)
		if mark(x.Type(value)) == 'o' || how == flow.Maybe || how == flow.Alike && (other == slot || !facts.Holds(value)) {
			return false, nil
		}
		put(value, v.From, v.From, "some(")
		put(value, v.To, v.To, ")")
	}
	if !declared {
		return false, nil
	}
	sort.SliceStable(list, func(i, k int) bool {
		a, b := list[i], list[k]
		return a.From < b.From || a.From == b.From && a.To < b.To
	})
	return true, list
}

// hold holds the three functions to the document, of one body; its Closed locals.
func hold(t *testing.T, x *base.Info, body int) []int {
	t.Helper()
	var want []int
	for slot := range x.Bodies()[body].Scope.Len() {
		closed, list := wanted(x, body, slot)
		if closed {
			want = append(want, slot)
		}
		if got := Closed(x, body, slot); got != closed {
			t.Fatalf("the local %d of %d is Closed: %t, in %s", slot, body, got, tree.Form(x.Tree(), x.Bodies()[body].Node))
		}
		if got := Changes(x, body, slot); !slices.Equal(got, list) {
			t.Fatalf("%+v, not %+v", got, list)
		}
	}
	if got := Locals(x, body); !slices.Equal(got, want) {
		t.Fatalf("%v, not %v", got, want)
	}
	return want
}

// wrapped goes by the document: a text with all options, made of a right one; and how many they are.
func wrapped(t *testing.T, text string) (string, int) {
	t.Helper()
	for count := 0; ; count++ {
		x, f := strict.Program(text)
		if x == nil {
			t.Fatal(f)
		}
		plain := tree.Erase(x.Tree())
		made := ""
		for body, b := range x.Bodies() {
			for slot := range b.Scope.Len() {
				closed, list := wanted(x, body, slot)
				if !closed || made != "" {
					continue
				}
				y, ok := plan.Program(text, list)
				if ok && tree.Same(plain, tree.Erase(y.Tree())) {
					made, _ = edit.Apply(text, plan.Edits(list)...)
				}
			}
		}
		if made == "" {
			return text, count
		}
		text = made
	}
}

// holdWrap holds Wrap to the document, of a right text; how many options were made, and the text then.
func holdWrap(t *testing.T, text string) (int, string) {
	t.Helper()
	want, n := wrapped(t, text)
	got, k, f := Wrap(text)
	if got != want || k != n || f != (api.Fault{}) {
		t.Fatalf("%d, not %d, %v: %s, not %s", k, n, f, got, want)
	}
	return k, got
}
