package born

import (
	"slices"

	"caulker/api"
	"caulker/base"
)

// field is an own field of a class: its node, and which one it is.
type field struct{ node, number int }

// state is what is known at a place in an init.
type state struct {
	live  bool   // a way leads there
	given []bool // which own fields have a value there
}

// join: what is known where the ways of two places meet.
func (s state) join(t state) state {
	switch {
	case !s.live:
		return t
	case !t.live:
		return s
	}
	both := state{live: true, given: make([]bool, len(s.given))}
	for i := range s.given {
		both.given[i] = s.given[i] && t.given[i]
	}
	return both
}

// with: what is known where one field more has a value.
func (s state) with(number int) state {
	s.given = slices.Clone(s.given)
	s.given[number] = true
	return s
}

// looker is how far one has looked over a class's own init.
type looker struct {
	program *base.Info
	nodes   []api.Node
	class   string
	init    int              // -1: it has none
	own     map[string]field // the own fields, by their names
	begun   bool             // the fields of all ancestors have values
	leaks   bool             // the object is handed on
	late    []Late
}

// newLooker: one that has looked at nothing yet.
func newLooker(x *base.Info, nodes []api.Node, class string) *looker {
	l := &looker{program: x, nodes: nodes, class: class, init: -1, own: map[string]field{}, begun: true}
	for _, m := range x.Table().Own(class) {
		switch nodes[m.Node].Kind {
		case api.Field:
			l.own[m.Name] = field{node: m.Node, number: len(l.own)}
		case api.Init:
			l.init = m.Node
		}
	}
	return l
}

// look goes through the init, if there is one: is the object handed on in it?
func (l *looker) look() bool {
	if l.init < 0 {
		l.all(NoInit, l.program.Table().Node(l.class))
		return false
	}
	kids := l.nodes[l.init].Kids
	s := state{live: true, given: make([]bool, len(l.own))}
	if s = l.statement(kids[len(kids)-1], s); s.live {
		l.missing(Ends, l.init, s)
	}
	return l.leaks
}

// tell tells of a field.
func (l *looker) tell(field, why, at int) {
	l.late = append(l.late, Late{Field: field, Why: why, At: at})
}

// all tells of all own fields.
func (l *looker) all(why, at int) {
	for _, f := range l.own {
		l.tell(f.node, why, at)
	}
}

// missing tells of the own fields that have no value.
func (l *looker) missing(why, at int, s state) {
	for _, f := range l.own {
		if !s.given[f.number] {
			l.tell(f.node, why, at)
		}
	}
}

// statement goes through one, if a way leads to it: what is known behind it. Behind a while it is what is known ahead of it, wherever breaks and ways back come from, as no field loses its value, and one way leads past the block.
func (l *looker) statement(node int, s state) state {
	if !s.live {
		return s
	}
	n := l.nodes[node]
	switch n.Kind {
	case api.Block:
		return l.statements(n.Kids, s)
	case api.If:
		l.value(n.Kids[0], s)
		return l.statement(n.Kids[1], s).join(l.statements(n.Kids[2:], s))
	case api.While:
		l.value(n.Kids[0], s)
		l.statement(n.Kids[1], s)
	case api.Break, api.Continue:
		return state{}
	case api.Return:
		l.missing(Ends, node, s)
		return state{}
	case api.Super:
		l.begun = false
		l.values(n.Kids, s)
		l.begun = true
	case api.Assign:
		return l.assign(n.Kids, s)
	default:
		l.values(n.Kids, s)
	}
	return s
}

// statements goes through some, in order.
func (l *looker) statements(list []int, s state) state {
	for _, node := range list {
		s = l.statement(node, s)
	}
	return s
}

// asks: is a value a field of the object itself?
func (l *looker) asks(node int) bool {
	n := l.nodes[node]
	return n.Kind == api.Get && l.nodes[n.Kids[0]].Kind == api.This
}

// assign goes through what is assigned to, and what is assigned: a field of the object itself has a value then.
func (l *looker) assign(kids []int, s state) state {
	if !l.asks(kids[0]) {
		l.values(kids, s)
		return s
	}
	l.value(kids[1], s)
	if f, ok := l.own[l.nodes[kids[0]].Text]; ok {
		return s.with(f.number)
	}
	return s
}

// values goes through some, in order.
func (l *looker) values(list []int, s state) {
	for _, node := range list {
		l.value(node, s)
	}
}

// value goes through one, for what it reads of the object, and for where it hands it on.
func (l *looker) value(node int, s state) {
	n := l.nodes[node]
	switch {
	case n.Kind == api.This:
		l.hand(node, s)
	case l.asks(node):
		l.read(node, s)
	default:
		l.values(n.Kids, s)
	}
}

// hand tells of the fields that have no value where the object is handed on.
func (l *looker) hand(node int, s state) {
	l.leaks = true
	l.missing(Leaks, node, s)
	if l.begun {
		return
	}
	for _, m := range l.program.Table().Fields(l.class) {
		if _, ok := l.own[m.Name]; !ok {
			l.tell(m.Node, Leaks, node)
		}
	}
}

// read tells of a field that has no value where it is read.
func (l *looker) read(node int, s state) {
	name := l.nodes[node].Text
	if f, ok := l.own[name]; ok {
		if !s.given[f.number] {
			l.tell(f.node, Reads, node)
		}
		return
	}
	if m, ok := l.program.Table().Field(l.class, name); ok && !l.begun {
		l.tell(m.Node, Reads, node)
	}
}
