package trace

import (
	"slices"
	"strconv"
	"strings"
	"testing"

	"caulker/api"
	"caulker/infer"
	"caulker/plan"
	"caulker/strict"
)

// far goes by the document: of each place how many steps lead there from null itself, at least.
func far(steps []infer.Step) map[strict.Place]int {
	far := map[strict.Place]int{{Node: -1, Layer: -1}: 0}
	for again := true; again; {
		again = false
		for _, s := range steps {
			if from, ok := far[s.From]; ok {
				if to, ok := far[s.To]; !ok || to > from+1 {
					far[s.To], again = from+1, true
				}
			}
		}
	}
	return far
}

// leads is where the way of a change's cause must lead; -1 and -1: there is none.
func leads(p *plan.Plan, c plan.Change) strict.Place {
	if c.Kind == plan.Mark {
		return c.Place
	}
	if c.Kind == plan.Asked || c.Kind == plan.Given {
		for _, i := range strict.Look(p.Result().Info(), true).Issues() {
			if i.At == c.Place.Node && i.From.Node >= 0 {
				return i.From
			}
		}
	}
	return strict.Place{Node: -1, Layer: -1}
}

// place is a byte's line and column.
func place(text string, at int) string {
	line := strings.Count(text[:at], "\n") + 1
	return strconv.Itoa(line) + ":" + strconv.Itoa(at-strings.LastIndex(text[:at], "\n"))
}

// called is what a place is called.
func called(p *plan.Plan, of strict.Place) string {
	n := p.Result().Info().Node(of.Node)
	name := map[int]string{api.Cast: "cast", api.NewArray: "new"}[n.Kind]
	if name == "" {
		name = n.Text
	}
	return name + "[][][][]"[:2*(n.Type.Dims-of.Layer)]
}

// line is how a cause is told.
func line(text string, p *plan.Plan, c Cause) string {
	told := place(text, c.Change.From) + " "
	switch c.Change.Kind {
	case 1:
		told += "? " + called(p, c.Change.Place)
	case 2:
		told += "! asked"
	case 3:
		told += "! given"
	default:
		told += strconv.Quote(c.Change.Text)
	}
	for i, s := range c.Steps {
		n := p.Result().Info().Node(s.At)
		why := []string{1: "comes at", 2: "same elements at", 4: "no value yet at", 5: "empty elements at", 6: "overridden at"}[s.Why]
		if s.Why == 1 && s.From.Node == -1 {
			why = map[int]string{api.NullLit: "null at", api.Ask: "ask at"}[n.Kind]
		}
		told += []string{": ", ", "}[min(i, 1)] + why + " " + place(text, n.From) + " to " + called(p, s.To)
	}
	return told
}

// hold holds what is told of some of a plan's changes to the document; their causes.
func hold(t *testing.T, text string, p *plan.Plan, list []plan.Change) []Cause {
	t.Helper()
	x, e := Of(text, p, list)
	if x == nil || e != api.OK {
		t.Fatalf("%v: %s", e, text)
	}
	causes, lines := x.Causes(), x.Lines()
	if len(causes) != len(list) || len(lines) != len(list) || !x.Real() {
		t.Fatalf("%d causes, %d lines, not %d, %t: %s", len(causes), len(lines), len(list), x.Real(), text)
	}
	steps := p.Result().Steps()
	far := far(steps)
	for i, c := range causes {
		if c.Change != list[i] {
			t.Errorf("%v, not %v", c.Change, list[i])
		}
		at := strict.Place{Node: -1, Layer: -1}
		for _, s := range c.Steps {
			if s.From != at || !slices.Contains(steps, s) {
				t.Errorf("%v of %v: %s", s, c, text)
			}
			at = s.To
		}
		if to := leads(p, c.Change); at != to || len(c.Steps) != far[to] {
			t.Errorf("%v lead to %v, not %v: %s", c.Steps, at, to, text)
		}
		if want := line(text, p, c); lines[i] != want {
			t.Errorf("%s, not %s: %s", lines[i], want, text)
		}
	}
	return causes
}
