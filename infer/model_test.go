package infer

import (
	"slices"
	"testing"

	"caulker/api"
	"caulker/base"
	"caulker/strict"
	"caulker/tree"
)

// found is what the document says of a program.
type found struct {
	text   string // with the marks
	marked []strict.Place
	guards []int
	cuts   []int
	steps  []Step
	rounds int
	fault  api.Fault
}

// with is a text with marks put in at some places of its program that have none.
func with(x *base.Info, text string, list []strict.Place) string {
	at := map[int]bool{}
	for _, p := range list {
		if n := x.Node(p.Node); n.Type.Marks[p.Layer] == api.Plain {
			at[n.Ends[p.Layer]] = true
		}
	}
	marked := ""
	for i := range len(text) {
		if at[i] {
			marked += "?"
		}
		marked += text[i : i+1]
	}
	return marked
}

// solve goes by the document, with the marks put in the text, which is read anew each round.
func solve(t *testing.T, text string, asks bool, shut []strict.Place) found {
	t.Helper()
	x := known(t, text)
	f := found{text: text}
	for again := true; again; {
		y := known(t, f.text)
		f.rounds++
		f.guards, f.cuts, again = nil, nil, false
		for _, i := range strict.Look(y, asks).Issues() {
			mark := func(p strict.Place) byte { return y.Node(p.Node).Type.Marks[p.Layer] }
			from, to := i.From, i.Want
			value := y.Node(i.At).Kind
			switch {
			case i.Kind == strict.Option || i.Kind == strict.Asked && y.Type(i.At).Marks[y.Type(i.At).Dims] == api.Optional:
				return found{fault: api.Fault{Code: i.Code(), At: x.Node(i.At).From}}
			case i.Kind == strict.Asked:
				f.guards = append(f.guards, i.At)
				continue
			case i.Kind == strict.Flows && slices.Contains(shut, to) && value != api.NullLit:
				f.cuts = append(f.cuts, i.At)
				continue
			case i.Kind == strict.Differ && mark(from) == api.Plain:
				from, to = to, from
			}
			if mark(to) != api.Plain {
				t.Fatalf("%v in %s", i, f.text)
			}
			f.steps = append(f.steps, Step{from, to, i.Kind, i.At})
			again = true
		}
		f.marked = nil
		for _, p := range Places(x.Tree()) {
			if slices.ContainsFunc(f.steps, func(s Step) bool { return s.To == p }) {
				f.marked = append(f.marked, p)
			}
		}
		f.text = with(x, text, f.marked)
	}
	slices.Sort(f.guards)
	slices.Sort(f.cuts)
	f.guards, f.cuts = slices.Compact(f.guards), slices.Compact(f.cuts)
	return f
}

// far is how many of the steps lead to each place from null itself, at least; 0: none do.
func far(steps []Step) map[strict.Place]int {
	list := map[strict.Place]int{}
	for more := true; more; {
		more = false
		for _, s := range steps {
			n := list[s.From]
			if s.From != strict.Nowhere() && n == 0 {
				continue
			}
			if known := list[s.To]; known == 0 || n+1 < known {
				list[s.To] = n + 1
				more = true
			}
		}
	}
	return list
}

// before: does a step stand ahead of another one?
func before(a, b Step) bool {
	x := []int{a.To.Node, a.To.Layer, a.From.Node, a.From.Layer, a.Why, a.At}
	y := []int{b.To.Node, b.To.Layer, b.From.Node, b.From.Layer, b.Why, b.At}
	return slices.Compare(x, y) < 0
}

// hold holds what Solve tells of a text's program to the document.
func hold(t *testing.T, text string, asks bool, shut ...strict.Place) found {
	t.Helper()
	want := solve(t, text, asks, shut)
	x := known(t, text)
	r, f := Solve(x, asks, shut...)
	if f != want.fault || (r == nil) != (f.Code != api.OK) {
		t.Fatalf("%v, not %v, of %s", f, want.fault, text)
	}
	if r == nil {
		return want
	}
	if !slices.Equal(r.Marked(), want.marked) || !slices.Equal(r.Guards(), want.guards) || !slices.Equal(r.Cuts(), want.cuts) || r.Rounds() != want.rounds {
		t.Fatalf("%v %v %v %d, not %v %v %v %d, of %s", r.Marked(), r.Guards(), r.Cuts(), r.Rounds(), want.marked, want.guards, want.cuts, want.rounds, text)
	}
	if p := known(t, want.text).Tree(); !tree.Same(r.Info().Tree(), p) || !tree.Same(Mark(x.Tree(), r.Marked()...), p) {
		t.Fatalf("the program of %s, not %s", text, want.text)
	}
	steps := r.Steps()
	for i, s := range steps {
		if i > 0 && !before(steps[i-1], s) || !slices.Contains(want.steps, s) {
			t.Fatalf("%v of %s", steps, text)
		}
	}
	for _, s := range want.steps {
		if !slices.Contains(steps, s) {
			t.Fatalf("%v isn't there, of %s", s, text)
		}
	}
	holdPaths(t, r, x, text)
	return want
}

// holdPaths holds the way to each place to the document.
func holdPaths(t *testing.T, r *Result, x *base.Info, text string) {
	t.Helper()
	steps, want := r.Steps(), far(r.Steps())
	for _, p := range Places(x.Tree()) {
		path := r.Path(p)
		if len(path) != want[p] {
			t.Fatalf("%d, not %d to %v, of %s", len(path), want[p], p, text)
		}
		at := strict.Nowhere()
		for _, s := range path {
			if s.From != at || !slices.Contains(steps, s) {
				t.Fatalf("%v to %v, of %s", path, p, text)
			}
			at = s.To
		}
		if len(path) > 0 && at != p {
			t.Fatalf("%v to %v, of %s", path, p, text)
		}
	}
}
