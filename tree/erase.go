package tree

import (
	"strings"

	"caulker/api"
)

// strict: is a node of the strict language alone?
func strict(n api.Node) bool {
	switch n.Kind {
	case api.Guard, api.Some, api.NoneLit, api.IsSome, api.IsNone, api.Val:
		return true
	}
	return !Plain(n.Type)
}

// Marked: the first node, in order, of a kind, or with a type, that is of the strict language alone; false: there is none.
func Marked(t api.Tree) (int, bool) {
	for _, i := range Walk(t, t.Root) {
		if strict(t.Nodes[i]) {
			return i, true
		}
	}
	return 0, false
}

// eraser is a program that is made of another one: its nodes, and which of them stands for each of the other's.
type eraser struct {
	made Builder
	to   []int
}

// Erase: a program without what is of the strict language alone: types without marks; what is guarded, wrapped or unwrapped itself; null for none; held against null for is.
func Erase(t api.Tree) api.Tree {
	if Check(t) != api.OK {
		return api.Tree{}
	}
	e := eraser{to: make([]int, len(t.Nodes))}
	for i, n := range t.Nodes {
		to, ok := e.node(n)
		if !ok {
			return api.Tree{}
		}
		e.to[i] = to
	}
	return e.made.Tree()
}

// node: which node stands for one; what that is made of has been made already. False: there is no room.
func (e *eraser) node(n api.Node) (int, bool) {
	kids := make([]int, len(n.Kids))
	for i, kid := range n.Kids {
		kids[i] = e.to[kid]
	}
	switch n.Kind {
	case api.Guard, api.Some, api.Val:
		return kids[0], true
	case api.NoneLit:
		n.Kind = api.NullLit
	case api.IsSome:
		return e.held(n, kids[0], "!=")
	case api.IsNone:
		return e.held(n, kids[0], "==")
	}
	n.Kids = kids
	n.Type.Marks = strings.Repeat(" ", len(n.Type.Marks))
	return e.made.Add(n)
}

// held: a node that holds a value against null, in place of one that asks whether it is there. If there is no room for null, there is none behind it.
func (e *eraser) held(n api.Node, value int, sign string) (int, bool) {
	null, _ := e.made.Add(api.Node{Kind: api.NullLit, Span: api.Span{From: n.To, To: n.To}})
	n.Kind, n.Text = api.Binary, sign
	n.Kids = []int{value, null}
	return e.made.Add(n)
}
