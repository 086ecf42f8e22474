package born

import (
	"cmp"
	"slices"
	"testing"

	"caulker/api"
	"caulker/base"
	"caulker/tree"
)

// point is a place that a way leads through: what is at it, which field has a value from there on, and where it leads on to.
type point struct {
	at    int    // a This, a Get of one, a Return or the init; -1: nothing
	gives string // the field of the object itself that is assigned to
	early bool   // it is among the arguments of a super
	next  []int
}

// model is the document's ways of an init, one by one.
type model struct {
	*base.Info
	points []point
	early  bool
	breaks []int
	heads  []int
}

// add is a point more.
func (m *model) add(p point) int {
	p.early = m.early
	m.points = append(m.points, p)
	return len(m.points) - 1
}

// own: does a node ask a field of the object itself?
func (m *model) own(node int) bool {
	n := m.Node(node)
	return n.Kind == api.Get && m.Node(n.Kids[0]).Kind == api.This
}

// uses are the points of values, ahead of a next one.
func (m *model) uses(values []int, next int) int {
	for _, value := range slices.Backward(values) {
		switch {
		case m.own(value) || m.Node(value).Kind == api.This:
			next = m.add(point{at: value, next: []int{next}})
		default:
			next = m.uses(m.Node(value).Kids, next)
		}
	}
	return next
}

// stat is the point where a statement begins, whose end leads on to a next one.
func (m *model) stat(node, next int) int {
	n := m.Node(node)
	switch n.Kind {
	case api.Block:
		for _, kid := range slices.Backward(n.Kids) {
			next = m.stat(kid, next)
		}
		return next
	case api.If:
		ways := []int{m.stat(n.Kids[1], next), next}
		if len(n.Kids) == 3 {
			ways[1] = m.stat(n.Kids[2], next)
		}
		return m.uses(n.Kids[:1], m.add(point{at: -1, next: ways}))
	case api.While:
		head := m.add(point{at: -1})
		m.breaks, m.heads = append(m.breaks, next), append(m.heads, head)
		block := m.stat(n.Kids[1], head)
		m.breaks, m.heads = m.breaks[:len(m.breaks)-1], m.heads[:len(m.heads)-1]
		m.points[head].next = []int{m.uses(n.Kids[:1], m.add(point{at: -1, next: []int{block, next}}))}
		return head
	case api.Break:
		return m.breaks[len(m.breaks)-1]
	case api.Continue:
		return m.heads[len(m.heads)-1]
	case api.Return:
		return m.add(point{at: node})
	case api.Super:
		m.early = true
		next = m.uses(n.Kids, next)
		m.early = false
		return next
	case api.Assign:
		if m.own(n.Kids[0]) {
			return m.uses(n.Kids[1:], m.add(point{at: -1, gives: m.Node(n.Kids[0]).Text, next: []int{next}}))
		}
	}
	return m.uses(n.Kids, next)
}

// ways are the points to which a way leads on which a field had no value; of no field (an empty name) all to which one leads.
func (m *model) ways(first int, field string) map[int]bool {
	seen := map[int]bool{}
	list := []int{first}
	for len(list) > 0 {
		here := list[0]
		list = list[1:]
		if p := m.points[here]; !seen[here] && (field == "" || p.gives != field) {
			list = append(list, p.next...)
		}
		seen[here] = true
	}
	return seen
}

// causes are those of a field, by a class's own init: of an own one, or of an ancestor's.
func (m *model) causes(init, field int, own bool) []Late {
	kids := m.Node(init).Kids
	m.points = nil
	first := m.stat(kids[len(kids)-1], m.add(point{at: init}))
	name := m.Node(field).Text
	var list []Late
	for here := range m.ways(first, name) {
		p := m.points[here]
		why := 0
		switch {
		case p.at < 0 || !own && !p.early:
		case m.Node(p.at).Kind == api.This:
			why = Leaks
		case m.own(p.at):
			if m.Node(p.at).Text == name {
				why = Reads
			}
		default:
			why = Ends
		}
		if why > 0 {
			list = append(list, Late{field, why, p.at})
		}
	}
	return list
}

// leaks: does a class's own init hand the object on?
func (m *model) leaks(init int) bool {
	kids := m.Node(init).Kids
	m.points = nil
	first := m.stat(kids[len(kids)-1], m.add(point{at: init}))
	for here := range m.ways(first, "") {
		if at := m.points[here].at; at >= 0 && m.Node(at).Kind == api.This {
			return true
		}
	}
	return false
}

// init is a class's own one; -1, if it has none.
func (m *model) init(class string) int {
	for _, b := range m.Bodies() {
		if b.Init && b.Owner == class {
			return b.Node
		}
	}
	return -1
}

// late are all causes, and the classes that leak.
func (m *model) late() ([]Late, map[string]bool) {
	var all []Late
	leaks := map[string]bool{}
	for _, class := range m.Table().Names() {
		chain, init := m.Table().Chain(class), m.init(class)
		var above bool
		for _, c := range chain[1:] {
			above = above || m.init(c) >= 0 && m.leaks(m.init(c))
		}
		leaks[class] = above || init >= 0 && m.leaks(init)
		for _, f := range m.Table().Fields(class) {
			switch {
			case init >= 0:
				all = append(all, m.causes(init, f.Node, f.Owner == class)...)
				if above && f.Owner == class {
					all = append(all, Late{f.Node, Above, init})
				}
			case f.Owner == class:
				all = append(all, Late{f.Node, NoInit, m.Table().Node(class)})
			}
		}
	}
	slices.SortFunc(all, func(a, b Late) int {
		return cmp.Or(cmp.Compare(a.Field, b.Field), cmp.Compare(a.At, b.At), cmp.Compare(a.Why, b.Why))
	})
	return all, leaks
}

// hold holds what is told of how a program's objects begin to the model: how often each cause is told.
func hold(t *testing.T, x *base.Info) map[int]int {
	t.Helper()
	m := &model{Info: x}
	want, leaks := m.late()
	r := Look(x)
	if list := r.Late(); !slices.Equal(list, want) {
		t.Fatalf("%v, not %v, of %s", list, want, tree.Form(x.Tree(), x.Tree().Root))
	}
	for class, is := range leaks {
		if r.Leaks(class) != is {
			t.Fatalf("%s: %t, of %s", class, !is, tree.Form(x.Tree(), x.Tree().Root))
		}
	}
	fields, told := map[int]bool{}, map[int]int{}
	for _, l := range want {
		fields[l.Field] = true
		told[l.Why]++
	}
	for node := range x.Len() {
		if r.Is(node) != fields[node] {
			t.Fatalf("%d: %t, of %s", node, r.Is(node), tree.Form(x.Tree(), x.Tree().Root))
		}
	}
	return told
}
