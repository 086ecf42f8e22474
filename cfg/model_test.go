package cfg

import (
	"slices"
	"testing"

	"caulker/api"
	"caulker/base"
	"caulker/tree"
)

// name is what a node is told apart by: no two of a graph have the same one.
type name struct{ kind, slot, at int }

// open is a node whose Next, or Else, isn't known yet.
type open struct {
	node  int
	other bool
}

// model is the document's graph of a body, made from the beginning on.
type model struct {
	*base.Info
	nodes  []Node
	start  int
	loose  []open // what leads to what comes next
	breaks [][]open
	heads  []int
}

// lead leads on from what is loose to a node.
func (m *model) lead(loose []open, to int) {
	for _, o := range loose {
		switch {
		case o.node < 0:
			m.start = to
		case o.other:
			m.nodes[o.node].Else = to
		default:
			m.nodes[o.node].Next = to
		}
	}
}

// put is a node more, behind what is loose.
func (m *model) put(kind, slot, at int) int {
	i := len(m.nodes)
	m.nodes = append(m.nodes, Node{Kind: kind, Slot: slot, At: at, Next: -1, Else: -1})
	m.lead(m.loose, i)
	m.loose = []open{{node: i}}
	return i
}

// values goes through some.
func (m *model) values(list ...int) {
	for _, node := range list {
		m.value(node)
	}
}

// value goes through one.
func (m *model) value(node int) {
	n := m.Node(node)
	logic := n.Kind == api.Binary && slices.Contains([]string{"&&", "||"}, n.Text)
	if logic {
		yes, no := m.condition(node)
		m.loose = append(yes, no...)
		m.put(Join, -1, node)
		return
	}
	if n.Kind == api.Var {
		m.put(Read, m.Slot(node), node)
	}
	for i, kid := range n.Kids {
		m.value(kid)
		if i > 0 || m.Node(kid).Kind != api.Var {
			continue
		}
		if slices.Contains([]int{api.Get, api.Index, api.Length, api.Call}, n.Kind) {
			m.put(Use, m.Slot(kid), kid)
		}
		if n.Kind == api.Guard {
			m.put(Must, m.Slot(kid), kid)
		}
	}
}

// held is the local's node of a value that holds one against null; -1: it is no such value.
func (m *model) held(node int) int {
	n := m.Node(node)
	if n.Kind == api.Binary && (n.Text == "==" || n.Text == "!=") {
		for i, kid := range n.Kids {
			if m.Node(kid).Kind == api.Var && m.Node(n.Kids[1-i]).Kind == api.NullLit {
				return kid
			}
		}
	}
	return -1
}

// condition goes through one: what leads on, if it is true, and if it isn't.
func (m *model) condition(node int) ([]open, []open) {
	n := m.Node(node)
	if n.Kind == api.Not {
		yes, no := m.condition(n.Kids[0])
		return no, yes
	}
	if n.Kind == api.Binary && n.Text == "&&" {
		yes, no := m.condition(n.Kids[0])
		m.loose = yes
		both, not := m.condition(n.Kids[1])
		return both, append(no, not...)
	}
	if n.Kind == api.Binary && n.Text == "||" {
		yes, no := m.condition(n.Kids[0])
		m.loose = no
		then, not := m.condition(n.Kids[1])
		return append(yes, then...), not
	}
	local, turned := m.held(node), n.Text == "=="
	if n.Kind == api.IsSome || n.Kind == api.IsNone {
		local, turned = n.Kids[0], n.Kind == api.IsNone
	}
	if local < 0 {
		m.value(node)
		i := m.put(Fork, -1, node)
		return []open{{node: i}}, []open{{node: i, other: true}}
	}
	m.put(Read, m.Slot(local), local)
	i := m.put(Test, m.Slot(local), local)
	if turned {
		return []open{{node: i, other: true}}, []open{{node: i}}
	}
	return []open{{node: i}}, []open{{node: i, other: true}}
}

// stat goes through a statement.
func (m *model) stat(node int) {
	n := m.Node(node)
	switch n.Kind {
	case api.Block:
		for _, kid := range n.Kids {
			m.stat(kid)
		}
	case api.If:
		yes, no := m.condition(n.Kids[0])
		m.loose = yes
		m.stat(n.Kids[1])
		yes, m.loose = m.loose, no
		if len(n.Kids) == 3 {
			m.stat(n.Kids[2])
		}
		m.loose = append(m.loose, yes...)
	case api.While:
		head := m.put(Join, -1, node)
		yes, no := m.condition(n.Kids[0])
		m.loose = yes
		m.heads, m.breaks = append(m.heads, head), append(m.breaks, no)
		m.stat(n.Kids[1])
		m.lead(m.loose, head)
		last := len(m.heads) - 1
		m.loose = m.breaks[last]
		m.heads, m.breaks = m.heads[:last], m.breaks[:last]
	case api.Break:
		last := len(m.breaks) - 1
		m.breaks[last] = append(m.breaks[last], m.loose...)
		m.loose = nil
	case api.Continue:
		m.lead(m.loose, m.heads[len(m.heads)-1])
		m.loose = nil
	case api.Return:
		m.values(n.Kids...)
		m.put(Leave, -1, node)
		m.loose = nil
	case api.Decl:
		at := -1
		if len(n.Kids) > 0 {
			at = n.Kids[0]
		}
		m.values(n.Kids...)
		m.put(Set, m.Slot(node), at)
	case api.Assign:
		if m.Node(n.Kids[0]).Kind != api.Var {
			m.values(n.Kids...)
			return
		}
		m.value(n.Kids[1])
		m.put(Set, m.Slot(n.Kids[0]), n.Kids[1])
	default:
		m.values(n.Kids...)
	}
}

// modelOf is the model of a body.
func modelOf(x *base.Info, b base.Body) *model {
	m := &model{Info: x, loose: []open{{node: -1}}}
	kids := x.Node(b.Node).Kids
	m.stat(kids[len(kids)-1])
	m.put(End, -1, b.Node)
	return m
}

// named are a graph's nodes by their names, each with those of what comes then.
func named(t *testing.T, nodes []Node) map[name][2]name {
	t.Helper()
	of := func(i int) name {
		if i < 0 {
			return name{at: -2}
		}
		return name{nodes[i].Kind, nodes[i].Slot, nodes[i].At}
	}
	all := map[name][2]name{}
	for i, n := range nodes {
		all[of(i)] = [2]name{of(n.Next), of(n.Else)}
	}
	if len(all) != len(nodes) {
		t.Fatal("two nodes are the same")
	}
	return all
}

// hold holds all graphs of a program to the model.
func hold(t *testing.T, x *base.Info) {
	t.Helper()
	m := &model{Info: x}
	for node := range x.Len() {
		if Held(x, node) != m.held(node) {
			t.Fatalf("%d: held %d", node, Held(x, node))
		}
	}
	for i, b := range x.Bodies() {
		m, g := modelOf(x, b), Of(x, i)
		var nodes []Node
		for i := range g.Len() {
			nodes = append(nodes, g.Node(i))
		}
		want, got := named(t, m.nodes), named(t, nodes)
		for n, then := range want {
			if has, ok := got[n]; !ok || has != then {
				t.Fatalf("%v: %v (%t), not %v, of %s", n, has, ok, then, tree.Form(x.Tree(), x.Tree().Root))
			}
		}
		start := m.nodes[m.start]
		if first := nodes[g.Start()]; len(want) != len(got) || first.Kind != start.Kind || first.At != start.At || first.Slot != start.Slot || nodes[g.End()].Kind != End {
			t.Fatalf("%d nodes, not %d, from %v on, of %s", len(got), len(want), first, tree.Form(x.Tree(), x.Tree().Root))
		}
		holdOrder(t, x, g)
	}
}

// holdOrder holds what comes behind what in a graph to the document.
func holdOrder(t *testing.T, x *base.Info, g *Graph) {
	t.Helper()
	reached := make([]bool, g.Len())
	reached[g.Start()] = true
	for list := []int{g.Start()}; len(list) > 0; list = list[1:] {
		n := g.Node(list[0])
		var then []int
		for _, next := range []int{n.Next, n.Else} {
			if next >= 0 && !slices.Contains(then, next) {
				then = append(then, next)
			}
		}
		if !slices.Equal(g.Then(list[0]), then) {
			t.Fatalf("behind %v: %v", n, g.Then(list[0]))
		}
		for _, next := range then {
			if !reached[next] {
				reached[next] = true
				list = append(list, next)
			}
		}
	}
	if !slices.Equal(g.Reached(), reached) {
		t.Fatalf("%v, not %v", g.Reached(), reached)
	}
	place := map[int]int{}
	for i, node := range g.Order() {
		if _, twice := place[node]; twice || !reached[node] {
			t.Fatalf("%d in the order", node)
		}
		place[node] = i
	}
	for node := range place {
		for _, next := range g.Then(node) {
			loop := g.Node(next).Kind == Join && x.Node(g.Node(next).At).Kind == api.While
			if at, ok := place[next]; !ok || at <= place[node] && !loop {
				t.Fatalf("%v isn't ahead of %v", g.Node(node), g.Node(next))
			}
		}
	}
	for i, there := range reached {
		if _, ok := place[i]; ok != there {
			t.Fatalf("%d in the order: %t", i, ok)
		}
	}
}
