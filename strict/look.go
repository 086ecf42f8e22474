package strict

import (
	"caulker/api"
	"caulker/base"
	"caulker/born"
	"caulker/class"
	"caulker/flow"
	"caulker/kind"
	"caulker/scope"
)

// looker is how far one has looked over a program, and the body in which one is.
type looker struct {
	*base.Info
	nodes  []api.Node
	issues []Issue
	body   base.Body
	locals []scope.Local
	facts  *flow.Facts
}

// tell tells something that is wrong.
func (l *looker) tell(what, at int, from, want Place) {
	l.issues = append(l.issues, Issue{Kind: what, At: at, From: from, Want: want})
}

// bare: a type whose values may not be null, though they refer to something.
func bare(t api.Type) bool { return kind.Ref(t) && kind.Outer(t) == api.Plain }

// fields looks at those that may be seen without a value.
func (l *looker) fields() {
	for _, late := range born.Look(l.Info).Late() {
		if f := written(late.Field, l.nodes[late.Field].Type); bare(f.Type) {
			l.tell(Unborn, late.At, Nowhere(), f.last)
		}
	}
}

// methods looks at those of a class that go over an ancestor's.
func (l *looker) methods(class string) {
	chain := l.Table().Chain(class)
	if len(chain) == 1 {
		return
	}
	for _, m := range l.Table().Own(class) {
		if l.nodes[m.Node].Kind != api.Method {
			continue
		}
		if under, ok := l.Table().Method(chain[1], m.Name); ok {
			l.over(m, under)
		}
	}
}

// over looks at a method that goes over another one: it takes what that takes, and answers what that answers.
func (l *looker) over(m, under class.Member) {
	for i := range m.Params {
		l.comes(Below, m.Node, l.param(under, i), l.param(m, i))
	}
	l.comes(Below, m.Node, written(m.Node, m.Type), written(under.Node, under.Type))
}

// param: a parameter's type.
func (l *looker) param(m class.Member, i int) sight {
	return written(l.nodes[m.Node].Kids[i], m.Params[i])
}

// inside looks at a body, by its number.
func (l *looker) inside(number int, b base.Body, asks bool) {
	l.body, l.locals, l.facts = b, b.Scope.Locals(), flow.Solve(l.Info, number, asks)
	kids := l.nodes[b.Node].Kids
	l.statement(kids[len(kids)-1])
}

// statement looks at one.
func (l *looker) statement(node int) {
	n := l.nodes[node]
	switch n.Kind {
	case api.Block:
		l.statements(n.Kids)
	case api.If, api.While:
		l.value(n.Kids[0])
		l.statements(n.Kids[1:])
	case api.Decl:
		l.given(n.Kids, written(node, n.Type))
	case api.Assign:
		l.given(n.Kids[1:], l.target(n.Kids[0]))
	case api.Return:
		l.given(n.Kids, written(l.body.Node, l.body.Type))
	case api.Super:
		chain := l.Table().Chain(l.body.Owner)
		m, _ := l.Table().Init(chain[1])
		l.arguments(n.Kids, m)
	default:
		l.values(n.Kids)
	}
}

// statements looks at some, in order.
func (l *looker) statements(list []int) {
	for _, node := range list {
		l.statement(node)
	}
}

// given looks at the value that comes to a type, if there is one.
func (l *looker) given(value []int, want sight) {
	for _, node := range value {
		l.comes(Flows, node, l.value(node), want)
	}
}

// arguments looks at those for a method's or an init's parameters.
func (l *looker) arguments(list []int, m class.Member) {
	for i, node := range list {
		l.comes(Flows, node, l.value(node), l.param(m, i))
	}
}
