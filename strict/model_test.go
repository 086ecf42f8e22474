package strict

import (
	"cmp"
	"slices"
	"testing"

	"caulker/api"
	"caulker/base"
	"caulker/born"
	"caulker/flow"
	"caulker/kind"
	"caulker/tree"
)

// spot is where a node stands: in which other one, and as which of those that it is made of.
type spot struct{ parent, as int }

// model is the document's issues, node by node, in whatever order.
type model struct {
	*base.Info
	facts []*flow.Facts
	spots map[int]spot
	turn  map[int]int // when a node of a body has been looked at
	turns int
	found []timed
}

// timed is an issue of a body, and behind which node it is told.
type timed struct {
	turn, step int
	Issue
}

// newModel is one of a program.
func newModel(x *base.Info, asks bool) *model {
	m := &model{Info: x, spots: map[int]spot{}, turn: map[int]int{}}
	for node := range x.Len() {
		for as, kid := range x.Node(node).Kids {
			m.spots[kid] = spot{node, as}
		}
	}
	for body, b := range x.Bodies() {
		m.facts = append(m.facts, flow.Solve(x, body, asks))
		m.visit(b.Node)
	}
	return m
}

// visit numbers what a node is made of, in order, and then the node.
func (m *model) visit(node int) {
	for _, kid := range m.Node(node).Kids {
		m.visit(kid)
	}
	m.turns++
	m.turn[node] = m.turns
}

// mark is a value's type's mark at a layer, as it is seen here.
func (m *model) mark(node, layer int) byte {
	t := m.Type(node)
	if m.Node(node).Kind == api.Var && layer == t.Dims && t.Marks[layer] == api.Nullable && m.facts[m.Within(node)].Holds(node) {
		return api.Plain
	}
	return t.Marks[layer]
}

// from is the place where a value's layer's mark is from.
func (m *model) from(node, layer int) Place {
	n, last := m.Node(node), layer == m.Type(node).Dims
	switch n.Kind {
	case api.Var:
		if last && m.facts[m.Within(node)].Holds(node) {
			return Nowhere()
		}
		return Place{m.declared(node), layer}
	case api.Get:
		f, _ := m.Table().Field(m.Type(n.Kids[0]).Name, n.Text)
		return Place{f.Node, layer}
	case api.Call:
		f, _ := m.Table().Method(m.Type(n.Kids[0]).Name, n.Text)
		return Place{f.Node, layer}
	case api.Cast:
		return Place{node, layer}
	case api.Index:
		return m.from(n.Kids[0], layer)
	case api.NewArray:
		if !last {
			return Place{node, layer}
		}
	case api.Ask, api.Guard, api.Some, api.Val:
		if !last {
			return m.from(n.Kids[0], layer)
		}
	}
	return Nowhere()
}

// declared is the Param or Decl that a name means.
func (m *model) declared(node int) int {
	return m.Bodies()[m.Within(node)].Scope.Locals()[m.Slot(node)].Node
}

// wanted is a type to which a value comes, and the places of its layers.
type wanted struct {
	api.Type
	place func(layer int) Place
}

// at is a type as it stands at a node.
func at(node int, t api.Type) *wanted {
	return &wanted{t, func(layer int) Place { return Place{node, layer} }}
}

// want is the type to which a value comes; nil: to none.
func (m *model) want(node int) *wanted {
	s := m.spots[node]
	p := m.Node(s.parent)
	switch p.Kind {
	case api.Decl, api.Cast:
		return at(s.parent, p.Type)
	case api.Assign:
		to := p.Kids[0]
		switch {
		case s.as == 0:
			return nil
		case m.Node(to).Kind == api.Var:
			return at(m.declared(to), m.Type(to))
		}
		return &wanted{m.Type(to), func(layer int) Place { return m.from(to, layer) }}
	case api.Return:
		b := m.Bodies()[m.Within(node)]
		return at(b.Node, b.Type)
	case api.Call:
		if s.as > 0 {
			f, _ := m.Table().Method(m.Type(p.Kids[0]).Name, p.Text)
			return m.param(f.Node, s.as-1)
		}
	case api.New:
		f, _ := m.Table().Init(p.Type.Name)
		return m.param(f.Node, s.as)
	case api.Super:
		f, _ := m.Table().Init(m.Table().Parent(m.Bodies()[m.Within(node)].Owner))
		return m.param(f.Node, s.as)
	}
	return nil
}

// param is a parameter's type.
func (m *model) param(method, i int) *wanted {
	node := m.Node(method).Kids[i]
	return at(node, m.Node(node).Type)
}

// tell notes an issue of a body, told once a node has been looked at.
func (m *model) tell(behind int, i Issue) {
	m.found = append(m.found, timed{m.turn[behind], len(m.found), i})
}

// comes is what is wrong where marks come to marks: how the issue is called of the last ones, and from where to where all are.
func comes(flows int, a, b []byte, from, to func(int) Place, node int) []Issue {
	var list []Issue
	x, y, last := a[len(a)-1], b[len(b)-1], 0
	switch {
	case x == api.Optional && y != api.Optional, x != api.Optional && y == api.Optional:
		last = Option
	case x == api.Nullable && y == api.Plain:
		last = flows
	}
	if last > 0 {
		list = append(list, Issue{last, node, from(len(a) - 1), to(len(b) - 1)})
	}
	for layer := range b[1:] {
		if len(a) == len(b) && a[layer] != b[layer] {
			list = append(list, Issue{Differ, node, from(layer), to(layer)})
		}
	}
	return list
}

// value is what is wrong with a value where it stands.
func (m *model) value(node int) {
	s, t := m.spots[node], m.Type(node)
	p := m.Node(s.parent)
	if n := m.Node(node); n.Kind == api.NewArray && kind.Ref(n.Type) && n.Type.Marks[n.Type.Dims] == api.Plain {
		m.tell(n.Kids[0], Issue{Empty, node, Nowhere(), Place{node, n.Type.Dims}})
	}
	if !kind.Ref(t) {
		return
	}
	last := m.mark(node, t.Dims)
	issue := func(what int) Issue { return Issue{what, node, m.from(node, t.Dims), Nowhere()} }
	signs := p.Kind == api.Binary && (p.Text == "==" || p.Text == "!=")
	must := p.Kind == api.IsSome || p.Kind == api.IsNone || p.Kind == api.Val
	asked := s.as == 0 && slices.Contains([]int{api.Get, api.Index, api.Length, api.Call, api.Some}, p.Kind)
	behind := node
	if signs {
		behind = p.Kids[1]
	}
	if asked && last == api.Nullable {
		m.tell(node, issue(Asked))
	}
	if last == api.Optional && (asked || signs || p.Kind == api.Ask || p.Kind == api.Guard) || last != api.Optional && must {
		m.tell(behind, issue(Option))
	}
	if p.Kind == api.Val && !m.facts[m.Within(node)].Holds(node) {
		m.tell(node, issue(Asked))
	}
	if w := m.want(node); w != nil && kind.Ref(w.Type) {
		var marks []byte
		for layer := range t.Dims + 1 {
			marks = append(marks, m.mark(node, layer))
		}
		for _, i := range comes(Flows, marks, []byte(w.Marks), func(layer int) Place { return m.from(node, layer) }, w.place, node) {
			m.tell(node, i)
		}
	}
}

// issues are all of them.
func (m *model) issues() []Issue {
	var list []Issue
	for _, l := range born.Look(m.Info).Late() {
		if f := m.Node(l.Field); kind.Ref(f.Type) && f.Type.Marks[f.Type.Dims] == api.Plain {
			list = append(list, Issue{Unborn, l.At, Nowhere(), Place{l.Field, f.Type.Dims}})
		}
	}
	for _, name := range m.Table().Names() {
		for _, own := range m.Table().Own(name) {
			under, ok := m.Table().Method(m.Table().Parent(name), own.Name)
			if !ok || m.Node(own.Node).Kind != api.Method {
				continue
			}
			for i := range own.Params {
				a, b := m.param(under.Node, i), m.param(own.Node, i)
				if kind.Ref(a.Type) {
					list = append(list, comes(Below, []byte(a.Marks), []byte(b.Marks), a.place, b.place, own.Node)...)
				}
			}
			a, b := at(own.Node, own.Type), at(under.Node, under.Type)
			if kind.Ref(a.Type) {
				list = append(list, comes(Below, []byte(a.Marks), []byte(b.Marks), a.place, b.place, own.Node)...)
			}
		}
	}
	for node := range m.Len() {
		if tree.Value(m.Node(node).Kind) {
			m.value(node)
		}
	}
	slices.SortFunc(m.found, func(a, b timed) int {
		return cmp.Or(cmp.Compare(a.turn, b.turn), cmp.Compare(m.order(a), m.order(b)), cmp.Compare(a.step, b.step))
	})
	for _, i := range m.found {
		list = append(list, i.Issue)
	}
	return list
}

// order is which one of both values of a sign an issue is of.
func (m *model) order(i timed) int { return m.turn[i.At] }

// hold holds what is told of a program to the model: how often each kind of issue is told.
func hold(t *testing.T, x *base.Info, asks bool) map[int]int {
	t.Helper()
	want := newModel(x, asks).issues()
	r := Look(x, asks)
	list := r.Issues()
	if !slices.Equal(list, want) || r.Right() != (len(want) == 0) {
		t.Fatalf("%v, not %v, of %s", list, want, tree.Form(x.Tree(), x.Tree().Root))
	}
	told := map[int]int{}
	for _, i := range list {
		told[i.Kind]++
	}
	return told
}
