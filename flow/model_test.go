package flow

import (
	"testing"

	"caulker/api"
	"caulker/base"
	"caulker/cfg"
	"caulker/kind"
	"caulker/scope"
	"caulker/tree"
)

// spot is a place on a way, with the locals that are known there, a bit each.
type spot struct {
	node  int
	known uint64
}

// model is what is known in a body, found on all ways one by one.
type model struct {
	*base.Info
	locals []scope.Local
	graph  *cfg.Graph
	asks   bool
	spots  map[spot]bool
	some   map[int]uint64 // of each node to which a way leads, the locals that aren't known on all of them
}

// blank: is a local's type's last mark a blank?
func (m *model) blank(slot int) bool { return kind.Outer(m.locals[slot].Type) == api.Plain }

// sure: may a local that is set to a value not be null, where so many are known?
func (m *model) sure(value int, known uint64) bool {
	if value < 0 {
		return false
	}
	if m.Node(value).Kind == api.Var {
		slot := m.Slot(value)
		return known>>slot&1 == 1 || m.blank(slot)
	}
	return m.Node(value).Kind == api.Some || kind.Outer(m.Type(value)) == api.Plain
}

// behind are the spots that come next.
func (m *model) behind(s spot) []spot {
	n := m.graph.Node(s.node)
	is, not := s.known, s.known
	if n.Slot >= 0 {
		is, not = s.known|1<<n.Slot, s.known&^(1<<n.Slot)
	}
	switch n.Kind {
	case cfg.Leave, cfg.End:
		return nil
	case cfg.Test:
		return []spot{{n.Next, is}, {n.Else, s.known}}
	case cfg.Fork:
		return []spot{{n.Next, s.known}, {n.Else, s.known}}
	case cfg.Must:
		return []spot{{n.Next, is}}
	case cfg.Use:
		if m.asks {
			return []spot{{n.Next, is}}
		}
	case cfg.Set:
		if m.sure(n.At, s.known) {
			return []spot{{n.Next, is}}
		}
		return []spot{{n.Next, not}}
	}
	return []spot{{n.Next, s.known}}
}

// modelOf is the model of a body.
func modelOf(x *base.Info, body int, asks bool) *model {
	m := &model{Info: x, locals: x.Bodies()[body].Scope.Locals(), graph: cfg.Of(x, body), asks: asks, spots: map[spot]bool{}, some: map[int]uint64{}}
	first := spot{node: m.graph.Start()}
	for slot, l := range m.locals {
		if l.Param && m.blank(slot) {
			first.known |= 1 << slot
		}
	}
	for list := []spot{first}; len(list) > 0; {
		s := list[len(list)-1]
		list = list[:len(list)-1]
		if !m.spots[s] {
			m.spots[s] = true
			m.some[s.node] |= ^s.known
			list = append(list, m.behind(s)...)
		}
	}
	return m
}

// at: is a local known at a node of the graph (also if no way leads there), or its type's last mark a blank?
func (m *model) at(i, slot int) bool { return m.blank(slot) || m.some[i]>>slot&1 == 0 }

// hold holds what is known in each of a program's bodies to the model: how many names there are that may be null, and are known not to be.
func hold(t *testing.T, x *base.Info) int {
	t.Helper()
	sure := 0
	for body := range x.Bodies() {
		for _, asks := range []bool{false, true} {
			sure += holdBody(t, x, modelOf(x, body, asks), Solve(x, body, asks))
		}
	}
	return sure
}

// holdBody holds what is known in a body to the model.
func holdBody(t *testing.T, x *base.Info, m *model, f *Facts) int {
	t.Helper()
	wrong := func(what string, node, slot int) {
		t.Helper()
		t.Fatalf("%s of %d and %d, asks %t, of %s", what, node, slot, m.asks, tree.Form(x.Tree(), x.Tree().Root))
	}
	reads, leaves := map[int]int{}, map[int]int{}
	for i := range m.graph.Len() {
		switch n := m.graph.Node(i); n.Kind {
		case cfg.Read:
			reads[n.At] = i
		case cfg.Leave:
			leaves[n.At] = i
		}
	}
	sure := 0
	for node := range x.Len() {
		i, read := reads[node]
		l, leave := leaves[node]
		_, there := m.some[i]
		own := m.Slot(node)
		if f.Reached(node) != (read && there) {
			wrong("Reached", node, -1)
		}
		if f.Holds(node) != (!read || m.at(i, own)) {
			wrong("Holds", node, own)
		}
		if read && there && !m.blank(own) && m.at(i, own) {
			sure++
		}
		for slot := range m.locals {
			if f.Known(node, slot) != (!read || m.at(i, slot)) {
				wrong("Known", node, slot)
			}
			if f.Left(node, slot) != (!leave || m.at(l, slot)) {
				wrong("Left", node, slot)
			}
		}
	}
	for slot := range m.locals {
		if f.Left(-1, slot) != m.at(m.graph.End(), slot) {
			wrong("Left", -1, slot)
		}
	}
	if f.Rounds() < 1 {
		wrong("Rounds", f.Rounds(), -1)
	}
	return sure
}
