package paths

import (
	"math/rand"
	"slices"
	"strconv"
	"testing"

	"caulker/api"
	"caulker/base"
	"caulker/tree"
)

// point is a place that a way leads through: what is done there, and where it leads on to.
type point struct {
	node  int // the statement that begins, or the name that needs a value; -1: none
	slot  int // the local that is given a value, or loses it; -1: none
	gives bool
	next  []int
}

// model is the document's ways of a body, one by one.
type model struct {
	*base.Info
	points []point
	end    int // the point at the body's end
	breaks []int
	heads  []int
}

// add is a point more.
func (m *model) add(p point) int {
	m.points = append(m.points, p)
	return len(m.points) - 1
}

// uses are the points of the names in a value, ahead of a next one.
func (m *model) uses(values []int, next int) int {
	for _, value := range slices.Backward(values) {
		next = m.uses(m.Node(value).Kids, next)
		if m.Node(value).Kind == api.Var {
			next = m.add(point{node: value, slot: -1, next: []int{next}})
		}
	}
	return next
}

// stat is the point where a statement begins, whose end leads on to a next one.
func (m *model) stat(node, next int) int {
	n := m.Node(node)
	first := next
	switch n.Kind {
	case api.Block:
		for _, kid := range slices.Backward(n.Kids) {
			first = m.stat(kid, first)
		}
	case api.If:
		ways := []int{m.stat(n.Kids[1], next), next}
		if len(n.Kids) == 3 {
			ways[1] = m.stat(n.Kids[2], next)
		}
		first = m.uses(n.Kids[:1], m.add(point{node: -1, slot: -1, next: ways}))
	case api.While:
		head := m.add(point{node: -1, slot: -1})
		m.breaks, m.heads = append(m.breaks, next), append(m.heads, head)
		block := m.stat(n.Kids[1], head)
		m.breaks, m.heads = m.breaks[:len(m.breaks)-1], m.heads[:len(m.heads)-1]
		m.points[head].next = []int{m.uses(n.Kids[:1], m.add(point{node: -1, slot: -1, next: []int{block, next}}))}
		first = head
	case api.Break:
		first = m.breaks[len(m.breaks)-1]
	case api.Continue:
		first = m.heads[len(m.heads)-1]
	case api.Return:
		first = m.uses(n.Kids, m.add(point{node: -1, slot: -1}))
	case api.Decl:
		first = m.uses(n.Kids, m.add(point{node: -1, slot: m.Slot(node), gives: len(n.Kids) > 0, next: []int{next}}))
	case api.Assign:
		if m.Node(n.Kids[0]).Kind == api.Var {
			first = m.uses(n.Kids[1:], m.add(point{node: -1, slot: m.Slot(n.Kids[0]), gives: true, next: []int{next}}))
		} else {
			first = m.uses(n.Kids, next)
		}
	default:
		first = m.uses(n.Kids, next)
	}
	return m.add(point{node: node, slot: -1, next: []int{first}})
}

// at is a point, with a local that has a value or not.
type at struct {
	point int
	has   bool
}

// ways are all that ways lead to from a point on, as to a local.
func (m *model) ways(first, slot int) map[at]bool {
	seen := map[at]bool{}
	list := []at{{first, true}}
	for len(list) > 0 {
		here := list[0]
		list = list[1:]
		if seen[here] {
			continue
		}
		seen[here] = true
		p := m.points[here.point]
		if p.slot == slot {
			here.has = p.gives
		}
		for _, next := range p.next {
			list = append(list, at{next, here.has})
		}
	}
	return seen
}

// body is what is known of one: the first name that may have no value (-1: none), the statements that are reached, and whether its end is.
func (m *model) body(b base.Body) (int, map[int]bool, bool) {
	kids := m.Node(b.Node).Kids
	m.points = nil
	m.end = m.add(point{node: -1, slot: -1})
	first := m.stat(kids[len(kids)-1], m.end)
	unset := map[int]bool{}
	reached := map[int]bool{}
	falls := false
	for slot := range max(1, b.Scope.Len()) {
		for here := range m.ways(first, slot) {
			node := m.points[here.point].node
			falls = falls || here.point == m.end
			switch {
			case node < 0:
			case m.Node(node).Kind != api.Var:
				reached[node] = true
			case !here.has && m.Slot(node) == slot:
				unset[node] = true
			}
		}
	}
	for _, node := range tree.Walk(m.Tree(), b.Node) {
		if unset[node] {
			return node, reached, falls
		}
	}
	return -1, reached, falls
}

// hold holds what is told of a program's ways to the model.
func hold(t *testing.T, x *base.Info) api.Fault {
	t.Helper()
	m := &model{Info: x}
	var want api.Fault
	reached := map[int]bool{}
	var falls []bool
	for _, b := range x.Bodies() {
		unset, more, end := m.body(b)
		falls = append(falls, end)
		for node := range more {
			reached[node] = true
		}
		if want.Code == api.OK && unset >= 0 {
			want = api.Fault{Code: api.ErrUnset, At: x.Node(unset).From}
		}
		if want.Code == api.OK && end && !b.Init && b.Type.Base != api.Void {
			want = api.Fault{Code: api.ErrReturn, At: x.Node(b.Node).From}
		}
	}
	r, f := Check(x)
	if f != want || (r == nil) != (f.Code != api.OK) {
		t.Fatalf("%v, not %v, of %s", f, want, tree.Form(x.Tree(), x.Tree().Root))
	}
	if r == nil {
		return f
	}
	for i := range x.Len() {
		if r.Reached(i) != reached[i] {
			t.Fatalf("%d: %t, of %s", i, r.Reached(i), tree.Form(x.Tree(), x.Tree().Root))
		}
	}
	for i := range falls {
		if r.Falls(i) != falls[i] {
			t.Fatalf("%d: %t, of %s", i, r.Falls(i), tree.Form(x.Tree(), x.Tree().Root))
		}
	}
	return f
}

// chance makes programs, the same ones each time.
type chance struct {
	*rand.Rand
	locals *int
}

// name is a local that is there, of those that may be named.
func (c chance) name(open []string) string { return open[c.Intn(len(open))] }

// block is a block of statements, in so many loops.
func (c chance) block(open []string, deep, loops int, answers string) string {
	text := "{ "
	for range 1 + c.Intn(4) {
		switch k := c.Intn(12); {
		case k < 2 && *c.locals < 40:
			*c.locals++
			name := "v" + strconv.Itoa(*c.locals)
			text += "int " + name + []string{"; ", "; ", " = " + c.name(open) + "; "}[c.Intn(3)]
			open = append(slices.Clone(open), name)
		case k < 6:
			text += c.name(open) + " = " + strconv.Itoa(k) + "; "
		case k == 6:
			text += "print(" + c.name(open) + "); "
		case k == 7 && loops > 0:
			text += []string{"break; ", "continue; "}[c.Intn(2)]
		case k == 8 && c.Intn(3) == 0:
			text += answers
		case k == 9 && deep > 0:
			text += "while (b) " + c.block(open, deep-1, loops+1, answers)
		case k >= 10 && deep > 0:
			text += "if (b) " + c.block(open, deep-1, loops, answers)
			if k == 11 {
				text += "else " + c.block(open, deep-1, loops, answers)
			}
		case k == 8 && deep > 0:
			text += c.block(open, deep-1, loops, answers)
		}
	}
	return text + "} "
}

// P14.1 to P14.4: programs of all kinds, right ones and wrong ones, are told as the document tells of them.
func TestModel(t *testing.T) {
	c := chance{rand.New(rand.NewSource(14)), new(int)}
	told := map[api.Errno]int{}
	for range 6000 {
		text := "class Main { int main() { return 1; } "
		for i, head := range []string{"int f(int p, bool b) ", "void g(int p, bool b) ", "init() { } void h(int p, bool b) "}[:1+c.Intn(3)] {
			*c.locals = 0
			answers := []string{"return p; ", "return; ", "return; "}[i]
			text += head + c.block([]string{"p"}, 3, 0, answers)
			if i == 0 && c.Intn(2) == 0 {
				text = text[:len(text)-2] + "return 1; } "
			}
		}
		told[hold(t, known(t, text+"}")).Code]++
	}
	for _, code := range []api.Errno{api.OK, api.ErrUnset, api.ErrReturn} {
		if told[code] < 500 {
			t.Errorf("%d: but %d times", code, told[code])
		}
	}
}
