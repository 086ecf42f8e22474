package option

import (
	"slices"

	"caulker/api"
	"caulker/base"
	"caulker/cfg"
	"caulker/flow"
	"caulker/kind"
	"caulker/plan"
	"caulker/strict"
)

// looker is what looks at a program's locals.
type looker struct {
	*base.Info
	tree    api.Tree
	bodies  []base.Body
	held    map[int]int      // names that are held against null, and the values that do so
	guarded map[int]struct{} // names behind which a guard stands
}

// local is one that may become an option: its number, its declaration, the values that it gets, and where it is named but for getting one.
type local struct {
	slot, decl    int
	values, names []int
}

// newLooker goes through all nodes once, as there may be as many bodies.
func newLooker(x *base.Info) *looker {
	l := &looker{Info: x, tree: x.Tree(), bodies: x.Bodies(), held: map[int]int{}, guarded: map[int]struct{}{}}
	for node, n := range l.tree.Nodes {
		switch n.Kind {
		case api.Binary:
			if name := cfg.Held(x, node); name >= 0 {
				l.held[name] = node
			}
		case api.Guard:
			l.guarded[n.Kids[0]] = struct{}{}
		}
	}
	return l
}

// closed: the locals of a body of which all can be said of an option, by their numbers.
func (l *looker) closed(body int) []local {
	if body < 0 || body >= len(l.bodies) {
		return nil
	}
	list := l.marked(l.bodies[body])
	if len(list) == 0 { // most bodies need no facts
		return nil
	}
	facts := flow.Solve(l.Info, body, false)
	return slices.DeleteFunc(list, func(d local) bool { return !l.can(d, facts) })
}

// marked: the locals of a body that are declared with a mark and a value.
func (l *looker) marked(b base.Body) []local {
	var list []local
	for slot, known := range b.Scope.Locals() {
		n := l.tree.Nodes[known.Node]
		if len(n.Kids) > 0 && kind.Outer(n.Type) == api.Nullable { // a parameter is made of nothing
			list = append(list, l.local(b, slot, known.Node))
		}
	}
	return list
}

// local: all that is done with one.
func (l *looker) local(b base.Body, slot, decl int) local {
	d := local{slot: slot, decl: decl, names: b.Scope.Uses(slot)}
	for _, set := range b.Scope.Sets(slot) {
		kids := l.tree.Nodes[set].Kids
		d.values = append(d.values, kids[len(kids)-1])
		d.names = slices.DeleteFunc(d.names, func(name int) bool { return name == kids[0] })
	}
	return d
}

// can: can all that is done with a local be said of an option?
func (l *looker) can(d local, facts *flow.Facts) bool {
	for _, value := range d.values {
		if !l.null(value) && !l.full(value, d.slot, facts) {
			return false
		}
	}
	for _, name := range d.names {
		_, held := l.held[name]
		_, guarded := l.guarded[name]
		if !held && (guarded || !facts.Holds(name)) {
			return false
		}
	}
	return true
}

// null: is a value null itself?
func (l *looker) null(value int) bool { return l.tree.Nodes[value].Kind == api.NullLit }

// full: can a value that a local gets not be null, and is it no option?
func (l *looker) full(value, slot int, facts *flow.Facts) bool {
	how, other := flow.Source(l.Info, value)
	never := how == flow.Never || how == flow.Alike && other != slot && facts.Holds(value)
	return never && kind.Outer(l.Type(value)) != api.Optional
}

// changes: those that make an option of a local, in order.
func (l *looker) changes(d local) []plan.Change {
	n := l.tree.Nodes[d.decl]
	list := []plan.Change{
		put("Option<", d.decl, n.Where.From, n.Where.From),
		put(">", d.decl, layerEnd(n), n.Where.To),
	}
	for _, value := range d.values {
		v := l.tree.Nodes[value]
		if l.null(value) {
			list = append(list, put("none", value, v.From, v.To))
		} else {
			list = append(list, put("some(", value, v.From, v.From), put(")", value, v.To, v.To))
		}
	}
	for _, name := range d.names {
		if check, held := l.held[name]; held {
			list = append(list, l.asked(check, name))
		} else {
			to := l.tree.Nodes[name].To
			list = append(list, put(".val", name, to, to))
		}
	}
	plan.Sort(list)
	return list
}

// asked: what stands in the place of a value that holds a name against null.
func (l *looker) asked(check, name int) plan.Change {
	n := l.tree.Nodes[check]
	text := l.tree.Nodes[name].Text + " is some"
	if n.Text == "==" {
		text = l.tree.Nodes[name].Text + " is none"
	}
	if n.From != l.tree.Nodes[n.Kids[0]].From { // the bracket that goes parted it from a word ahead
		text = " " + text
	}
	return put(text, check, n.From, n.To)
}

// layerEnd: where the last layer of a declared type ends, ahead of its mark.
func layerEnd(n api.Node) int {
	if last := n.Type.Dims; last < len(n.Ends) {
		return n.Ends[last]
	}
	return n.Where.To // of a program that was read from no text
}

// put: a change by which a text stands in the place of a span.
func put(text string, node, from, to int) plan.Change {
	return plan.Change{Edit: api.Edit{Span: api.Span{From: from, To: to}, Text: text}, Kind: plan.Wrapped, Place: strict.Place{Node: node, Layer: strict.Nowhere().Layer}}
}
