package trace

import (
	"strconv"
	"strings"

	"caulker/api"
	"caulker/infer"
	"caulker/kind"
	"caulker/plan"
	"caulker/strict"
)

// Source: what a value is that may be null by itself, in a word.
func Source(n api.Node) string {
	switch n.Kind {
	case api.NullLit:
		return "null"
	case api.Ask:
		return "ask"
	}
	return "value"
}

// Lines: each cause in a line, in order.
func (t *Trace) Lines() []string {
	var list []string
	for _, c := range t.causes {
		list = append(list, t.where(c.Change.From)+" "+t.what(c.Change)+t.told(c.Steps))
	}
	return list
}

// where: a byte's line and column.
func (t *Trace) where(at int) string {
	p, _ := t.table.At(at)
	return p.String()
}

// what: what a change puts in, and for what.
func (t *Trace) what(c plan.Change) string {
	switch c.Kind {
	case plan.Mark:
		return "? " + t.name(c.Place)
	case plan.Asked:
		return "! asked"
	case plan.Given:
		return "! given"
	}
	return strconv.Quote(c.Text)
}

// told: the steps of a way; nothing, if there are none.
func (t *Trace) told(steps []infer.Step) string {
	var list []string
	for _, s := range steps {
		n := t.node(s.At)
		list = append(list, why(s, n)+" "+t.where(n.From)+" to "+t.name(s.To))
	}
	if len(list) == 0 {
		return ""
	}
	return ": " + strings.Join(list, ", ")
}

// why: what a step's node does.
func why(s infer.Step, n api.Node) string {
	switch s.Why {
	case strict.Unborn:
		return "no value yet at"
	case strict.Empty:
		return "empty elements at"
	case strict.Below:
		return "overridden at"
	case strict.Differ:
		return "same elements at"
	}
	if s.From == strict.Nowhere() {
		return Source(n) + " at"
	}
	return "comes at"
}

// name: what a place is called, with a pair of brackets for each array around it.
func (t *Trace) name(p strict.Place) string {
	n := t.node(p.Node)
	name := n.Text
	switch n.Kind {
	case api.Cast:
		name = "cast"
	case api.NewArray:
		name = "new"
	}
	for _, layer := range kind.Layers(n.Type) {
		if layer > p.Layer {
			name += "[]"
		}
	}
	return name
}

// node: a node of the program; the zero one, if there is none of that number.
func (t *Trace) node(number int) api.Node {
	if number < 0 || number >= len(t.nodes) {
		return api.Node{}
	}
	return t.nodes[number]
}
