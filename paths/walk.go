package paths

import (
	"caulker/api"
	"caulker/base"
)

// set is some of a body's parameters and locals, a bit each: they are no more than it has.
type set uint64

// one: the set of one alone.
func one(slot int) set { return 1 << slot }

// state is what is known at a place in a body.
type state struct {
	live  bool // a way leads there
	unset set  // the locals that have no value there, on one of the ways
}

// join: what is known where the ways of two places meet.
func (s state) join(t state) state {
	return state{live: s.live || t.live, unset: s.unset | t.unset}
}

// walker is how far one has walked through a body.
type walker struct {
	program *base.Info
	report  *Report
	unset   int // the first name that may have no value; -1: none
}

// body walks through one: what is known at its end.
func (w *walker) body(b base.Body) state {
	kids := w.program.Node(b.Node).Kids
	return w.statement(kids[len(kids)-1], state{live: true})
}

// statement walks through one: what is known behind it. Behind a while it is what is known ahead of it, wherever breaks and ways back come from: the block takes the value of no local that is declared around it, and what is declared in it is named behind its declaration alone.
func (w *walker) statement(node int, s state) state {
	w.report.reached[node] = s.live
	n := w.program.Node(node)
	switch n.Kind {
	case api.Block:
		for _, kid := range n.Kids {
			s = w.statement(kid, s)
		}
	case api.If:
		w.value(n.Kids[0], s)
		behind := w.statement(n.Kids[1], s)
		for _, kid := range n.Kids[2:] {
			s = w.statement(kid, s)
		}
		return behind.join(s)
	case api.While:
		w.value(n.Kids[0], s)
		w.statement(n.Kids[1], s)
	case api.Break, api.Continue:
		return state{}
	case api.Return:
		w.values(n.Kids, s)
		return state{}
	case api.Decl:
		w.values(n.Kids, s)
		return w.given(node, s, len(n.Kids) > 0)
	case api.Assign:
		return w.assign(n.Kids, s)
	default:
		w.values(n.Kids, s)
	}
	return s
}

// assign walks through what is assigned to, and what is assigned: a name that is assigned to needs no value, and has one then.
func (w *walker) assign(kids []int, s state) state {
	if w.program.Node(kids[0]).Kind != api.Var {
		w.values(kids, s)
		return s
	}
	w.value(kids[1], s)
	return w.given(kids[0], s, true)
}

// given: what is known behind a node that gives a local a value, or takes it away.
func (w *walker) given(node int, s state, has bool) state {
	local := one(w.program.Slot(node))
	s.unset &^= local
	if s.live && !has {
		s.unset |= local
	}
	return s
}

// values walks through some, in order.
func (w *walker) values(list []int, s state) {
	for _, node := range list {
		w.value(node, s)
	}
}

// value walks through one, for the first name in it that may have no value.
func (w *walker) value(node int, s state) {
	n := w.program.Node(node)
	if n.Kind == api.Var && w.unset < 0 && s.unset&one(w.program.Slot(node)) != 0 {
		w.unset = node
	}
	w.values(n.Kids, s)
}
