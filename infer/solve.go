package infer

import (
	"slices"

	"caulker/api"
	"caulker/base"
	"caulker/kind"
	"caulker/strict"
)

// solver is how far one has come.
type solver struct {
	tree   api.Tree // with the marks that were found so far
	info   *base.Info
	asks   bool
	shut   map[strict.Place]struct{}
	places places
	guards []int // those of the last round
	cuts   []int
	rounds [][]Step // the steps that each round found
}

// newSolver begins with a program, and the places that are shut.
func newSolver(t api.Tree, asks bool, shut []strict.Place) *solver {
	s := &solver{tree: t, asks: asks, shut: map[strict.Place]struct{}{}, places: numbered(Places(t))}
	for _, p := range shut {
		s.shut[p] = struct{}{}
	}
	return s
}

// round looks at the program with the marks that were found so far: did it find more? Or what no marks can mend.
func (s *solver) round() (bool, api.Fault) {
	x, f := base.Of(s.tree)
	if f.Code != api.OK {
		return false, f
	}
	s.info, s.guards, s.cuts = x, nil, nil
	s.rounds = append(s.rounds, nil)
	for _, i := range strict.Look(x, s.asks).Issues() {
		if !s.mend(i) {
			return false, api.Fault{Code: i.Code(), At: s.tree.Nodes[i.At].From}
		}
	}
	var found []strict.Place
	for _, step := range s.rounds[len(s.rounds)-1] {
		found = append(found, step.To)
	}
	s.tree = Mark(s.tree, found...)
	return len(found) > 0, api.Fault{}
}

// mend notes what must be done about something that is wrong: can anything?
func (s *solver) mend(i strict.Issue) bool {
	switch i.Kind {
	case strict.Option:
		return false
	case strict.Differ:
		return s.level(i)
	case strict.Asked:
		if kind.Outer(s.info.Type(i.At)) == api.Optional {
			return false
		}
		s.guards = append(s.guards, i.At)
	case strict.Flows:
		if s.stops(i) {
			s.cuts = append(s.cuts, i.At)
			return true
		}
		s.give(i, i.From, i.Want)
	default:
		s.give(i, i.From, i.Want)
	}
	return true
}

// stops: does a value come to a place that is shut? Null itself does nevertheless, as no guard would let it on.
func (s *solver) stops(i strict.Issue) bool {
	_, shut := s.shut[i.Want]
	return shut && s.tree.Nodes[i.At].Kind != api.NullLit
}

// level gives a mark to that of two places that has none while the other one has one, if both may have one.
func (s *solver) level(i strict.Issue) bool {
	if !s.places.has(i.From) || !s.places.has(i.Want) || s.marked(i.From) == s.marked(i.Want) {
		return false
	}
	if s.marked(i.From) {
		s.give(i, i.From, i.Want)
	} else {
		s.give(i, i.Want, i.From)
	}
	return true
}

// marked: has a place a mark in this round?
func (s *solver) marked(p strict.Place) bool {
	return s.tree.Nodes[p.Node].Type.Marks[p.Layer] != api.Plain
}

// give notes that a place gets a mark, and from where; what isn't written may have none.
func (s *solver) give(i strict.Issue, from, to strict.Place) {
	if s.places.has(to) {
		last := len(s.rounds) - 1
		s.rounds[last] = append(s.rounds[last], Step{From: from, To: to, Why: i.Kind, At: i.At})
	}
}

// result is what was found, behind the last round; or that there are too many places.
func (s *solver) result() (*Result, api.Fault) {
	ways, e := s.places.ways(s.rounds)
	if e != api.OK {
		return nil, api.Fault{Code: e}
	}
	r := &Result{info: s.info, guards: once(s.guards), cuts: once(s.cuts), steps: sorted(s.rounds), rounds: len(s.rounds), places: s.places, ways: ways}
	for _, step := range r.steps {
		r.marked = append(r.marked, step.To)
	}
	r.marked = slices.Compact(r.marked)
	return r, api.Fault{}
}

// once: nodes, each once, rising.
func once(list []int) []int {
	slices.Sort(list)
	return slices.Compact(list)
}
