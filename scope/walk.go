package scope

import (
	"slices"

	"caulker/api"
)

// walker is how far one has looked over a method's or an init's nodes.
type walker struct {
	*Scope
	nodes []api.Node
	open  []int // the locals whose blocks hold what comes next
	held  bool  // what comes next stands in a block
}

// inBlock: does a node stand in a block? What it stands in comes behind it.
func inBlock(nodes []api.Node, at int) bool {
	for i := at + 1; i < len(nodes); i++ {
		if !slices.Contains(nodes[i].Kids, at) {
			continue
		}
		if nodes[i].Kind == api.Block {
			return true
		}
		at = i
	}
	return false
}

// fault: what is wrong, told where a node begins.
func (w *walker) fault(code api.Errno, at int) api.Fault {
	return api.Fault{Code: code, At: w.nodes[at].From}
}

// walk looks at what a node is made of, and then at the node; or tells the first thing that is wrong.
func (w *walker) walk(at int) api.Fault {
	n := w.nodes[at]
	outside, held := len(w.open), w.held
	w.held = held || n.Kind == api.Block
	for _, kid := range n.Kids {
		if f := w.walk(kid); f.Code != api.OK {
			return f
		}
	}
	w.held = held
	switch n.Kind {
	case api.Block:
		w.open = w.open[:outside:outside] // what is declared behind a block isn't laid over what was open in it
	case api.Param, api.Decl:
		return w.declare(at)
	case api.Var:
		return w.mean(at)
	case api.Assign:
		w.assign(at)
	}
	return api.Fault{}
}

// declare adds a parameter or a local. A local that no block holds is never open.
func (w *walker) declare(at int) api.Fault {
	n := w.nodes[at]
	switch {
	case w.Find(n.Text) >= 0:
		return w.fault(api.ErrTwice, at)
	case w.Len() == MaxLocals:
		return w.fault(api.ErrLong, at)
	}
	l := Local{Name: n.Text, Type: n.Type, Node: at, Param: n.Kind == api.Param}
	slot := w.Len()
	w.locals = append(w.locals, l.copy())
	if w.held && !l.Param {
		w.open = append(w.open, slot)
	}
	if len(n.Kids) > 0 {
		w.sets[at] = slot
	}
	return api.Fault{}
}

// mean notes which of the locals a name means.
func (w *walker) mean(at int) api.Fault {
	slot := w.Find(w.nodes[at].Text)
	if slot < 0 || !w.locals[slot].Param && !slices.Contains(w.open, slot) {
		return w.fault(api.ErrMissing, at)
	}
	w.uses[at] = slot
	return api.Fault{}
}

// assign notes which of the locals is given a value, if it is one of them.
func (w *walker) assign(at int) {
	if slot, ok := w.uses[w.nodes[at].Kids[0]]; ok {
		w.sets[at] = slot
	}
}
