package class

import (
	"math/rand"
	"reflect"
	"slices"
	"testing"

	"caulker/api"
	"caulker/tree"
)

// model is what the document says of a program's classes, told of its nodes, each thing for itself. No class is -1.
type model struct {
	api.Tree
	wrong []wrong
}

// wrong is something that is wrong; of all the one of the least rank is told.
type wrong struct {
	rank  []int
	fault api.Fault
}

// put notes what is wrong at a node.
func (m *model) put(code api.Errno, node int, rank ...int) {
	m.wrong = append(m.wrong, wrong{rank, api.Fault{Code: code, At: m.Nodes[node].From}})
}

// first is what is told.
func (m *model) first() api.Fault {
	if len(m.wrong) == 0 {
		return api.Fault{}
	}
	return slices.MinFunc(m.wrong, func(a, b wrong) int { return slices.Compare(a.rank, b.rank) }).fault
}

// kids are what a node is made of, of a kind.
func (m *model) kids(node, kind int) []int {
	var list []int
	for _, kid := range m.Nodes[node].Kids {
		if m.Nodes[kid].Kind == kind {
			list = append(list, kid)
		}
	}
	return list
}

// classes are the classes' nodes, in order.
func (m *model) classes() []int { return m.Nodes[m.Root].Kids }

// named is the class of a name.
func (m *model) named(name string) int {
	for _, class := range m.classes() {
		if m.Nodes[class].Text == name {
			return class
		}
	}
	return -1
}

// parent is a class's ancestor.
func (m *model) parent(class int) int {
	for _, ancestor := range m.kids(class, api.Ancestor) {
		return m.named(m.Nodes[ancestor].Text)
	}
	return -1
}

// chain is a class and its ancestors, up to where one comes back to one of them.
func (m *model) chain(class int) (list []int, back bool) {
	for ; class >= 0; class = m.parent(class) {
		if slices.Contains(list, class) {
			return list, true
		}
		list = append(list, class)
	}
	return list, false
}

// nearest is the first member of a kind and a name that a class in a list has of its own, with that class.
func (m *model) nearest(classes []int, kind int, name string) (class, node int) {
	for _, class := range classes {
		for _, node := range m.kids(class, kind) {
			if m.Nodes[node].Text == name {
				return class, node
			}
		}
	}
	return -1, -1
}

// alone notes what P11.1 tells of the classes.
func (m *model) alone() {
	for i, class := range m.classes() {
		n := m.Nodes[class]
		if n.Kind != api.ClassOf {
			m.put(api.ErrPlace, class, i, 0)
			continue
		}
		if m.named(n.Text) != class {
			m.put(api.ErrTwice, class, i, 1)
		}
		for j, member := range n.Kids {
			m.member(member, j == 0, i, j)
			for sort, kind := range []int{api.Field, api.Method, api.Init} {
				if m.Nodes[member].Kind != kind {
					continue
				}
				if _, earlier := m.nearest([]int{class}, kind, m.Nodes[member].Text); earlier != member {
					m.put(api.ErrTwice, member, i, 3+sort, j)
				}
			}
		}
	}
}

// member notes what may not stand in a class, the j-th thing that its i-th one is made of.
func (m *model) member(node int, first bool, i, j int) {
	n := m.Nodes[node]
	switch n.Kind {
	case api.Field:
	case api.Init, api.Method:
		for k, kid := range n.Kids {
			block := k == len(n.Kids)-1
			if block && m.Nodes[kid].Kind != api.Block || !block && m.Nodes[kid].Kind != api.Param {
				m.put(api.ErrPlace, kid, i, 2, j, k)
			}
		}
	default:
		if n.Kind != api.Ancestor || !first {
			m.put(api.ErrPlace, node, i, 2, j)
		}
	}
}

// together notes what P11.2 tells of the classes.
func (m *model) together() {
	for i, at := range tree.Walk(m.Tree, m.Root) {
		if n := m.Nodes[at]; n.Type.Base == api.Class && m.named(n.Type.Name) < 0 {
			m.wrong = append(m.wrong, wrong{[]int{1, i}, api.Fault{Code: api.ErrMissing, At: n.Where.From}})
		}
	}
	for i, class := range m.classes() {
		for _, ancestor := range m.kids(class, api.Ancestor) {
			if m.parent(class) < 0 {
				m.put(api.ErrMissing, ancestor, 0, i)
			}
		}
		chain, back := m.chain(class)
		if back {
			m.put(api.ErrCycle, class, 2, i)
		}
		for j, field := range m.kids(class, api.Field) {
			if _, other := m.nearest(chain[1:], api.Field, m.Nodes[field].Text); other >= 0 {
				m.put(api.ErrTwice, field, 3, i, j)
			}
		}
		for j, method := range m.kids(class, api.Method) {
			if _, under := m.nearest(chain[1:], api.Method, m.Nodes[method].Text); under >= 0 && !slices.Equal(m.types(method), m.types(under)) {
				m.put(api.ErrOver, method, 4, i, j)
			}
		}
	}
	chain, _ := m.chain(m.named("Main"))
	_, main := m.nearest(chain, api.Method, "main")
	_, init := m.nearest(chain, api.Init, "")
	if main < 0 || !slices.Equal(m.types(main), []api.Type{{Base: api.Int}}) || init >= 0 && len(m.kids(init, api.Param)) > 0 {
		m.wrong = append(m.wrong, wrong{[]int{5}, api.Fault{Code: api.ErrMain}})
	}
}

// types are a method's type and its params', without marks.
func (m *model) types(method int) []api.Type {
	list := []api.Type{m.Nodes[method].Type}
	for _, param := range m.kids(method, api.Param) {
		list = append(list, m.Nodes[param].Type)
	}
	for i := range list {
		list[i].Marks = ""
	}
	return list
}

// of is what is told of a class's member; the zero one of none.
func (m *model) of(class, node int) Member {
	if node < 0 {
		return Member{}
	}
	n := m.Nodes[node]
	member := Member{Owner: m.Nodes[class].Text, Name: n.Text, Node: node, Type: n.Type}
	for _, param := range m.kids(node, api.Param) {
		member.Params = append(member.Params, m.Nodes[param].Type)
	}
	return member
}

// own are a class's own members of some kinds, kind by kind.
func (m *model) own(class int, kinds ...int) []Member {
	var list []Member
	for _, kind := range kinds {
		for _, node := range m.kids(class, kind) {
			list = append(list, m.of(class, node))
		}
	}
	return list
}

// same: are two lists of members the same?
func same(a, b []Member) bool {
	return slices.EqualFunc(a, b, func(a, b Member) bool {
		params := slices.Equal(a.Params, b.Params)
		a.Params, b.Params = nil, nil
		return params && reflect.DeepEqual(a, b)
	})
}

// names are the names of some classes.
func (m *model) names(classes []int) []string {
	var list []string
	for _, class := range classes {
		list = append(list, m.Nodes[class].Text)
	}
	return list
}

// asked are the names that the tests ask for.
var asked = []string{"A", "B", "C", "Main", "", "Z", "f", "g", "h", "x", "y", "z", "main"}

// holdClass holds what is told of a class, or of one that isn't there, to the model.
func (m *model) holdClass(t *testing.T, x *Table, name string) {
	t.Helper()
	class := m.named(name)
	chain, _ := m.chain(class)
	parent := ""
	var own, all []Member
	if class >= 0 {
		own = m.own(class, api.Field, api.Method, api.Init)
	}
	if len(chain) > 1 {
		parent = m.Nodes[chain[1]].Text
	}
	for _, c := range slices.Backward(chain) {
		all = append(all, m.own(c, api.Field)...)
	}
	if x.Has(name) != (class >= 0) || x.Node(name) != class || x.Parent(name) != parent || !slices.Equal(x.Chain(name), m.names(chain)) {
		t.Fatalf("%q: %t %d %q %q", name, x.Has(name), x.Node(name), x.Parent(name), x.Chain(name))
	}
	if !same(x.Own(name), own) || !same(x.Fields(name), all) {
		t.Fatalf("%q: %v, not %v; %v, not %v", name, x.Own(name), own, x.Fields(name), all)
	}
	for _, other := range asked {
		if x.Sub(name, other) != (m.named(other) >= 0 && slices.Contains(chain, m.named(other))) {
			t.Fatalf("%q of %q: %t", name, other, x.Sub(name, other))
		}
		m.holdMember(t, x, name, other)
	}
}

// holdMember holds what is told of the members of a name to the model.
func (m *model) holdMember(t *testing.T, x *Table, class, name string) {
	t.Helper()
	chain, _ := m.chain(m.named(class))
	owner, node := m.nearest(chain, api.Field, name)
	if got, ok := x.Field(class, name); ok != (node >= 0) || !same([]Member{got}, []Member{m.of(owner, node)}) {
		t.Fatalf("%q, %q: %t, %v", class, name, ok, got)
	}
	owner, node = m.nearest(chain, api.Init, "")
	if got, ok := x.Init(class); ok != (node >= 0) || !same([]Member{got}, []Member{m.of(owner, node)}) {
		t.Fatalf("%q: %t, %v", class, ok, got)
	}
	owner, node = m.nearest(chain, api.Method, name)
	if got, ok := x.Method(class, name); ok != (node >= 0) || !same([]Member{got}, []Member{m.of(owner, node)}) {
		t.Fatalf("%q, %q: %t, %v", class, name, ok, got)
	}
	slices.Reverse(chain)
	farthest, _ := m.nearest(chain, api.Method, name)
	var family []Member
	for _, c := range m.classes() {
		if up, _ := m.chain(c); farthest >= 0 && slices.Contains(up, farthest) {
			if _, node := m.nearest([]int{c}, api.Method, name); node >= 0 {
				family = append(family, m.of(c, node))
			}
		}
	}
	if got := x.Family(class, name); !same(got, family) {
		t.Fatalf("%q, %q: %v, not %v", class, name, got, family)
	}
}

// P11.1 to P11.5: programs of all kinds, right ones and wrong ones, are told as the document tells of them.
func TestModel(t *testing.T) {
	c := chance{rand.New(rand.NewSource(11))}
	told := map[api.Errno]int{}
	for range 30000 {
		m := model{Tree: c.program().tree()}
		if e := tree.Check(m.Tree); e != api.OK {
			t.Fatalf("%d: %v", e, m.Tree)
		}
		m.alone()
		if len(m.wrong) == 0 {
			m.together()
		}
		x, f := Of(m.Tree)
		if f != m.first() || (x != nil) != (f.Code == api.OK) {
			t.Fatalf("%v, not %v, of %s", f, m.first(), tree.Form(m.Tree, m.Root))
		}
		told[f.Code]++
		if x == nil {
			continue
		}
		if !slices.Equal(x.Names(), m.names(m.classes())) {
			t.Fatalf("%q", x.Names())
		}
		for _, name := range asked {
			m.holdClass(t, x, name)
		}
	}
	for _, code := range []api.Errno{api.OK, api.ErrPlace, api.ErrTwice, api.ErrMissing, api.ErrCycle, api.ErrOver, api.ErrMain} {
		if told[code] < 100 {
			t.Errorf("%d: but %d times", code, told[code])
		}
	}
}
