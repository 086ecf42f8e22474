package show

import (
	"caulker/api"
	"caulker/tree"
)

// Some words of the language are also the names of the kinds of nodes that they begin; such a word is written by that name.

// block writes a block.
func (w *writer) block(at int) {
	if !w.only(at, api.Block) {
		return
	}
	w.WriteByte('{')
	if stats := w.nodes[at].Kids; len(stats) > 0 {
		w.lines(stats, w.stat)
	}
	w.WriteByte('}')
}

// stat writes a statement.
func (w *writer) stat(at int) {
	switch n := w.nodes[at]; n.Kind {
	case api.Block:
		w.block(at)
	case api.If, api.While:
		w.branch(n)
	default:
		w.short(n)
		w.WriteByte(';')
	}
}

// branch writes an if or a while.
func (w *writer) branch(n api.Node) {
	w.WriteString(tree.Name(n.Kind) + " ")
	w.list(n.Kids[:1], w.value)
	w.WriteByte(' ')
	w.block(n.Kids[1])
	if len(n.Kids) > 2 {
		w.WriteString(" else ")
		w.block(n.Kids[2])
	}
}

// short writes a statement that ends with a `;`, without that.
func (w *writer) short(n api.Node) {
	switch n.Kind {
	case api.Decl:
		w.declared(n)
		w.valued(" = ", n.Kids)
	case api.Assign:
		w.chosen(n.Kids[0], api.Var, api.Get, api.Index)
		w.valued(" = ", n.Kids[1:])
	case api.Break, api.Continue:
		w.WriteString(tree.Name(n.Kind))
	case api.Return:
		w.WriteString("return")
		w.valued(" ", n.Kids)
	case api.Print, api.Super:
		w.WriteString(tree.Name(n.Kind))
		w.list(n.Kids, w.value)
	case api.Expr:
		w.chosen(n.Kids[0], api.Call, api.New)
	default:
		w.refuse(api.ErrPlace)
	}
}

// valued writes a value, with a text in front of it; nothing, if there is none.
func (w *writer) valued(front string, values []int) {
	for _, at := range values {
		w.WriteString(front)
		w.value(at)
	}
}

// chosen writes a value where only ones of some kinds may stand.
func (w *writer) chosen(at int, kinds ...int) {
	if w.only(at, kinds...) {
		w.value(at)
	}
}
