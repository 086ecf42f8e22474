package flow

import (
	"caulker/api"
	"caulker/base"
	"caulker/cfg"
	"caulker/kind"
)

// set is some of a body's parameters and locals, a bit each: they are no more than it has.
type set uint64

// width is how many bits a set has.
const width = 64

// all is the set of whatever locals there are.
const all = ^set(0)

// one: the set of one alone.
func one(slot int) set { return 1 << slot }

// has: is one in a set?
func (s set) has(slot int) bool { return s&one(slot) != 0 }

// number: may a local have this number?
func number(slot int) bool { return slot >= 0 && slot < width }

// blank: the parameters and locals of a body whose types' last marks are blanks. They count as known wherever they are, as nobody asks of one of these alone what ways tell.
func blank(x *base.Info, body int) set {
	var s set
	for node := range x.Len() {
		if x.Within(node) != body {
			continue
		}
		n := x.Node(node)
		if (n.Kind == api.Param || n.Kind == api.Decl) && kind.Outer(n.Type) == api.Plain {
			s |= one(x.Slot(node))
		}
	}
	return s
}

// step is something that happens, and what the value is that a local is set to then.
type step struct {
	cfg.Node
	how  int // Never, Maybe or Alike
	from int // of Alike: the local
}

// solver is what is known so far: at first all, wherever no way was found to lead.
type solver struct {
	steps []step
	order []int
	blank set
	asks  bool
	known []set  // what is known ahead of each step
	open  []bool // the steps behind which something may have changed
}

// newSolver: a solver that has gone nowhere yet.
func newSolver(x *base.Info, g *cfg.Graph, blank set, asks bool) *solver {
	s := &solver{order: g.Order(), blank: blank, asks: asks}
	for i := range g.Len() {
		n := step{Node: g.Node(i), how: Maybe}
		if n.Kind == cfg.Set && n.At >= 0 {
			n.how, n.from = Source(x, n.At)
		}
		s.steps = append(s.steps, n)
		s.known = append(s.known, all)
		s.open = append(s.open, true)
	}
	s.known[g.Start()] = blank
	return s
}

// round goes through all steps behind which something may have changed: whether anything did.
func (s *solver) round() bool {
	changed := false
	for _, i := range s.order {
		if s.open[i] {
			s.open[i] = false
			changed = s.goOn(i) || changed
		}
	}
	return changed
}

// goOn goes on from a step to those that come then: whether what is known ahead of one of them changed.
func (s *solver) goOn(i int) bool {
	n := s.steps[i]
	known := s.behind(n, s.known[i])
	changed := s.lead(n.Else, known)
	if n.Kind == cfg.Test {
		known |= one(n.Slot)
	}
	return s.lead(n.Next, known) || changed
}

// behind: what is known behind a step of which this is known ahead of it.
func (s *solver) behind(n step, known set) set {
	switch n.Kind {
	case cfg.Set:
		holds := n.how == Never || n.how == Alike && known.has(n.from)
		known &^= one(n.Slot)
		if holds {
			known |= one(n.Slot)
		}
		return known | s.blank
	case cfg.Must:
		return known | one(n.Slot)
	case cfg.Use:
		if s.asks {
			return known | one(n.Slot)
		}
	}
	return known
}

// lead takes what isn't known on a way away from what is known ahead of a step to which it leads: whether that changed.
func (s *solver) lead(to int, known set) bool {
	if to < 0 || s.known[to]&known == s.known[to] {
		return false
	}
	s.known[to] &= known
	s.open[to] = true
	return true
}
