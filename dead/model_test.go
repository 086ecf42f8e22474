package dead

import (
	"slices"
	"sort"
	"testing"

	"caulker/api"
	"caulker/base"
	"caulker/edit"
	"caulker/plan"
	"caulker/strict"
)

// wanted goes by the document: a program's checks, and what is changed for them.
func wanted(x *base.Info) ([]Check, []plan.Change) {
	var list []Check
	var changes []plan.Change
	for node := range x.Len() {
		n := x.Node(node)
		if n.Kind != api.Binary || n.Text != "==" && n.Text != "!=" {
			continue
		}
		for i, kid := range n.Kids {
			if x.Node(kid).Kind != api.Var || x.Node(n.Kids[1-i]).Kind != api.NullLit {
				continue
			}
			local := x.Bodies()[x.Within(node)].Scope.Locals()[x.Slot(kid)]
			if local.Type.Marks[local.Type.Dims] != ' ' {
				continue
			}
			list = append(list, Check{Node: node, Is: n.Text == "!="})
			text := map[string]string{"!=": "true", "==": "false"}[n.Text]
			if x.Node(n.Kids[0]).From > n.From {
				text = " " + text
			}
			changes = append(changes, plan.Change{Edit: api.Edit{Span: api.Span{From: n.From, To: n.To}, Text: text}, Kind: 4, Place: strict.Place{Node: node, Layer: -1}})
		}
	}
	sort.SliceStable(changes, func(i, k int) bool { return changes[i].From < changes[k].From })
	return list, changes
}

// holdFound holds Find and Changes to the document; how many they are.
func holdFound(t *testing.T, x *base.Info) int {
	t.Helper()
	list, changes := wanted(x)
	if got := Find(x); !slices.Equal(got, list) {
		t.Fatalf("%v, not %v", got, list)
	}
	if got := Changes(x); !slices.Equal(got, changes) {
		t.Fatalf("%v, not %v", got, changes)
	}
	return len(list)
}

// hold holds all to the document, of a right text: what is left of it, and how many checks were made what they are.
func hold(t *testing.T, text string) (string, int) {
	t.Helper()
	x, f := strict.Program(text)
	if x == nil {
		t.Fatalf("%v, at %s", f, text[f.At:])
	}
	holdFound(t, x)
	_, left := wanted(x)
	var made []plan.Change
	for len(left) > 0 {
		last := left[len(left)-1]
		left = left[:len(left)-1]
		if _, ok := plan.Program(text, append([]plan.Change{last}, made...)); ok {
			made = append([]plan.Change{last}, made...)
		}
	}
	want, e := edit.Apply(text, plan.Edits(made)...)
	if e != api.OK {
		t.Fatal(e)
	}
	got, n, f := Remove(text)
	if got != want || n != len(made) || f != (api.Fault{}) {
		t.Fatalf("%d, not %d, %v: %s, not %s", n, len(made), f, got, want)
	}
	return got, n
}
