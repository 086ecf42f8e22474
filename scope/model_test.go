package scope

import (
	"math/rand"
	"reflect"
	"slices"
	"testing"

	"caulker/api"
	"caulker/tree"
)

// model is what the document says of a method's or an init's names, told of the nodes, each for itself.
type model struct {
	api.Tree
	body  int
	order []int // its nodes, each behind what it is made of
}

func newModel(p api.Tree, body int) *model {
	m := &model{Tree: p, body: body}
	m.look(body)
	return m
}

// look notes a node behind what it is made of.
func (m *model) look(at int) {
	for _, kid := range m.Nodes[at].Kids {
		m.look(kid)
	}
	m.order = append(m.order, at)
}

// around is what a node is one of which it is made of; -1, if there is no such one.
func (m *model) around(at int) int {
	return slices.IndexFunc(m.Nodes, func(n api.Node) bool { return slices.Contains(n.Kids, at) })
}

// declares: is a node a Param or a Decl?
func (m *model) declares(at int) bool {
	return m.Nodes[at].Kind == api.Param || m.Nodes[at].Kind == api.Decl
}

// home is the node that holds those that may mean a Param or a Decl; -1, if there is none.
func (m *model) home(at int) int {
	if m.Nodes[at].Kind == api.Param {
		return m.body
	}
	for at = m.around(at); at >= 0 && m.Nodes[at].Kind != api.Block; {
		at = m.around(at)
	}
	return at
}

// means is the Param or Decl that the i-th node, a Var, means; -1, if there is none.
func (m *model) means(i int) int {
	for _, at := range m.order[:i] {
		if m.declares(at) && m.Nodes[at].Text == m.Nodes[m.order[i]].Text {
			for up := m.order[i]; up >= 0; up = m.around(up) {
				if up == m.home(at) {
					return at
				}
			}
		}
	}
	return -1
}

// locals are the Params and Decls among some nodes.
func (m *model) locals(nodes []int) []int {
	var list []int
	for _, at := range nodes {
		if m.declares(at) {
			list = append(list, at)
		}
	}
	return list
}

// wrong is what is wrong with the i-th node.
func (m *model) wrong(i int) api.Errno {
	earlier := m.locals(m.order[:i])
	twice := slices.ContainsFunc(earlier, func(at int) bool { return m.Nodes[at].Text == m.Nodes[m.order[i]].Text })
	switch {
	case m.declares(m.order[i]) && twice:
		return api.ErrTwice
	case m.declares(m.order[i]) && len(earlier) >= 64:
		return api.ErrLong
	case m.Nodes[m.order[i]].Kind == api.Var && m.means(i) < 0:
		return api.ErrMissing
	}
	return api.OK
}

// first is the fault that is told.
func (m *model) first() api.Fault {
	for i, at := range m.order {
		if code := m.wrong(i); code != api.OK {
			return api.Fault{Code: code, At: m.Nodes[at].From}
		}
	}
	return api.Fault{}
}

// hold holds a scope, or what is wrong, to the model.
func (m *model) hold(t *testing.T) api.Errno {
	t.Helper()
	s, f := Of(m.Tree, m.body)
	if f != m.first() || (s != nil) != (f.Code == api.OK) {
		t.Fatalf("%v, not %v, of %s", f, m.first(), tree.Form(m.Tree, m.body))
	}
	if s == nil {
		return f.Code
	}
	locals := m.locals(m.order)
	var list []Local
	for i, at := range locals {
		n := m.Nodes[at]
		list = append(list, Local{Name: n.Text, Type: n.Type, Node: at, Param: n.Kind == api.Param})
		if s.Find(n.Text) != i {
			t.Fatalf("Find %q: %d, not %d", n.Text, s.Find(n.Text), i)
		}
	}
	if got := s.Locals(); len(got)+len(list) > 0 && !reflect.DeepEqual(got, list) || s.Len() != len(list) {
		t.Fatalf("%v, not %v", got, list)
	}
	m.holdNodes(t, s, locals)
	return api.OK
}

// holdNodes holds what is told of nodes to the model.
func (m *model) holdNodes(t *testing.T, s *Scope, locals []int) {
	t.Helper()
	uses, sets := make([][]int, len(locals)), make([][]int, len(locals))
	slots := make([]int, len(m.Nodes))
	for at := range slots {
		slots[at] = -1
	}
	for i, at := range m.order {
		n := m.Nodes[at]
		switch {
		case m.declares(at):
			slots[at] = slices.Index(locals, at)
			if len(n.Kids) > 0 {
				sets[slots[at]] = append(sets[slots[at]], at)
			}
		case n.Kind == api.Var:
			slots[at] = slices.Index(locals, m.means(i))
			uses[slots[at]] = append(uses[slots[at]], at)
		case n.Kind == api.Assign && m.Nodes[n.Kids[0]].Kind == api.Var:
			to := slots[n.Kids[0]]
			sets[to] = append(sets[to], at)
		}
	}
	for at := -2; at < len(m.Nodes)+2; at++ {
		if want := append([]int{-1, -1}, append(slots, -1, -1)...)[at+2]; s.Slot(at) != want {
			t.Fatalf("Slot %d: %d, not %d", at, s.Slot(at), want)
		}
	}
	for slot := range locals {
		slices.Sort(uses[slot])
		slices.Sort(sets[slot])
		if !slices.Equal(s.Uses(slot), uses[slot]) || !slices.Equal(s.Sets(slot), sets[slot]) {
			t.Fatalf("%d: %v, not %v; %v, not %v", slot, s.Uses(slot), uses[slot], s.Sets(slot), sets[slot])
		}
	}
	for _, slot := range []int{-1 << 63, -1, len(locals), 1<<63 - 1} {
		if len(s.Uses(slot)) != 0 || len(s.Sets(slot)) != 0 {
			t.Fatalf("%d: %v %v", slot, s.Uses(slot), s.Sets(slot))
		}
	}
}

// chance makes programs, the same ones each time.
type chance struct {
	*rand.Rand
	nodes []api.Node
	names []string // those that were declared
}

// add adds a node, made of these. None begins where another one does; its number says nothing of where it begins.
func (c *chance) add(kind int, text string, kids ...int) int {
	n := api.Node{Kind: kind, Span: api.Span{From: 9000 - 3*len(c.nodes)}, Text: text, Kids: kids}
	switch kind {
	case api.Param, api.Decl, api.Method, api.New:
		n.Type = api.Type{Base: api.Class, Name: "A", Marks: []string{" ", "?", "o"}[c.Intn(3)]}
	}
	c.nodes = append(c.nodes, n)
	return len(c.nodes) - 1
}

// name is a name that is to be new: seldom one that isn't.
func (c *chance) name() string {
	s := string(rune('a' + len(c.names)))
	if len(c.names) > 0 && c.Intn(40) == 0 {
		s = c.names[c.Intn(len(c.names))]
	}
	c.names = append(c.names, s)
	return s
}

// used is a name that is most often one that was declared, where it may not be meant.
func (c *chance) used() string {
	if len(c.names) == 0 || c.Intn(40) == 0 {
		return []string{"a", "b", "", "this"}[c.Intn(4)]
	}
	return c.names[c.Intn(len(c.names))]
}

// swap lays some nodes, now and then, in another order than that of their numbers.
func (c *chance) swap(nodes []int) {
	if n := len(nodes); n > 1 && c.Intn(5) == 0 {
		nodes[n-1], nodes[n-2] = nodes[n-2], nodes[n-1]
	}
}

// value is a value, made of few.
func (c *chance) value(deep int) int {
	switch c.Intn(4 + min(deep, 3)) {
	case 0, 1:
		return c.add(api.Var, c.used())
	case 2:
		return c.add(api.This, "")
	case 3:
		return c.add(api.NullLit, "")
	case 4:
		return c.add(api.Get, "a", c.value(deep-1))
	case 5:
		return c.add(api.Call, "b", c.value(deep-1), c.value(deep-1))
	}
	kids := []int{c.value(deep - 1), c.value(deep - 1)}
	c.swap(kids)
	return c.add(api.Binary, "+", kids...)
}

// stat is a statement; seldom one that doesn't stand in a block, or something that is none.
func (c *chance) stat(deep int) int {
	if deep <= 0 {
		return c.add(api.Decl, c.name())
	}
	within := func() int {
		if c.Intn(30) == 0 {
			return c.stat(deep - 1)
		}
		return c.block(deep - 1)
	}
	switch c.Intn(40) {
	case 0:
		return c.add(api.Param, c.name())
	case 1:
		return c.add(api.Init, "", within(), within())
	case 2:
		return c.value(deep)
	}
	switch c.Intn(8) {
	case 0, 1:
		return c.add(api.Decl, c.name(), c.value(deep))
	case 2:
		return c.add(api.Decl, c.name())
	case 3:
		return c.add(api.Assign, "", c.value(0), c.value(deep))
	case 4:
		return c.add(api.If, "", c.value(deep), within(), within())
	case 5:
		return c.add(api.While, "", c.value(deep), within())
	case 6:
		return c.block(deep - 1)
	}
	return c.add(api.Return, "", c.value(deep))
}

// block is a block of some statements.
func (c *chance) block(deep int) int {
	var kids []int
	for range c.Intn(4) {
		kids = append(kids, c.stat(deep))
	}
	c.swap(kids)
	return c.add(api.Block, "", kids...)
}

// body is a method or an init; seldom of other things than params and a block.
func (c *chance) body() int {
	var kids []int
	for range c.Intn(3) {
		kids = append(kids, c.add(api.Param, c.name()))
	}
	if c.Intn(20) == 0 {
		kids = append(kids, c.stat(1))
	}
	kids = append(kids, c.block(3))
	if c.Intn(20) == 0 {
		kids = append(kids, c.value(2))
	}
	if c.Intn(2) == 0 {
		return c.add(api.Init, "", kids...)
	}
	return c.add(api.Method, "f", kids...)
}

// program is a program of three bodies, all of which have names alike, seldom in a block, and the number of one of them.
func (c *chance) program() (api.Tree, int) {
	c.nodes = nil
	var kids, bodies []int
	for range 3 {
		c.names = nil
		bodies = append(bodies, c.body())
		kids = append(kids, bodies[len(bodies)-1])
		if c.Intn(10) == 0 {
			kids[len(kids)-1] = c.add(api.Block, "", c.add(api.Get, "", kids[len(kids)-1]))
		}
	}
	root := c.add(api.Program, "", c.add(api.ClassOf, "A", kids...))
	return api.Tree{Nodes: c.nodes, Root: root}, bodies[c.Intn(3)]
}

// P12.1 to P12.3: bodies of all kinds, right ones and wrong ones, are told as the document tells of them.
func TestModel(t *testing.T) {
	c := &chance{Rand: rand.New(rand.NewSource(12))}
	told := map[api.Errno]int{}
	for range 20000 {
		p, body := c.program()
		if e := tree.Check(p); e != api.OK {
			t.Fatalf("%d", e)
		}
		told[newModel(p, body).hold(t)]++
		for at, n := range p.Nodes {
			if n.Kind != api.Method && n.Kind != api.Init {
				if s, f := Of(p, at); s != nil || f != (api.Fault{Code: api.ErrPlace}) {
					t.Fatalf("%d of kind %d: %v", at, n.Kind, f)
				}
			}
		}
	}
	for _, code := range []api.Errno{api.OK, api.ErrTwice, api.ErrMissing} {
		if told[code] < 500 {
			t.Errorf("%d: but %d times", code, told[code])
		}
	}
}
