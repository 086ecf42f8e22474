package class

import (
	"strings"

	"caulker/api"
)

// The sorts of what a class has of its own.
const (
	fields = iota
	methods
	inits
	sorts // how many there are
)

// kin is a class, and what it comes from.
type kin struct {
	name   string
	node   int
	parent *kin // nil: it has no ancestor
	ends   bool // its ancestors are known to end
	own    [sorts][]Member
	places [sorts]map[string]int // where in its sort's list the one of a name is
}

// chain: a class and its ancestors, from it on; none, if there is no class.
func (c *kin) chain() []*kin {
	var list []*kin
	for ; c != nil; c = c.parent {
		list = append(list, c)
	}
	return list
}

// names: what some classes are called.
func names(list []*kin) []string {
	var all []string
	for _, c := range list {
		all = append(all, strings.Clone(c.name))
	}
	return all
}

// comes: is a class another one, or does it come from that?
func (c *kin) comes(from *kin) bool {
	for ; c != nil; c = c.parent {
		if c == from {
			return true
		}
	}
	return false
}

// find: the class's own member of a sort and a name.
func (c *kin) find(sort int, name string) (Member, bool) {
	i, ok := c.places[sort][name]
	if !ok {
		return Member{}, false
	}
	return c.own[sort][i].copy(), true
}

// nearest: the member of the first one that has such a member, of a class and its ancestors.
func (c *kin) nearest(sort int, name string) (Member, bool) {
	for ; c != nil; c = c.parent {
		if m, ok := c.find(sort, name); ok {
			return m, true
		}
	}
	return Member{}, false
}

// farthest: the last one that has such a member, of a class and its ancestors; nil, if none has.
func (c *kin) farthest(sort int, name string) *kin {
	var last *kin
	for ; c != nil; c = c.parent {
		if _, ok := c.places[sort][name]; ok {
			last = c
		}
	}
	return last
}

// copy: a member in memory of its own, its texts with it.
func (m Member) copy() Member {
	m.Owner = strings.Clone(m.Owner)
	m.Name = strings.Clone(m.Name)
	m.Type = typed(m.Type)
	var params []api.Type
	for _, t := range m.Params {
		params = append(params, typed(t))
	}
	m.Params = params
	return m
}

// copies: some members, each in memory of its own.
func copies(list []Member) []Member {
	var all []Member
	for _, m := range list {
		all = append(all, m.copy())
	}
	return all
}

// typed: a type whose texts are in memory of their own.
func typed(t api.Type) api.Type {
	t.Name = strings.Clone(t.Name)
	t.Marks = strings.Clone(t.Marks)
	return t
}
