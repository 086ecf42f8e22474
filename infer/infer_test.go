package infer

import (
	"strconv"
	"strings"
	"testing"

	"caulker/api"
	"caulker/base"
	"caulker/parse"
	"caulker/strict"
	"caulker/tree"
)

// known is a program, all of whose values have types.
func known(t *testing.T, text string) *base.Info {
	t.Helper()
	p, f := parse.Parse(text)
	if f != (api.Fault{}) {
		t.Fatalf("%v, at %s", f, text[f.At:])
	}
	x, f := base.Of(p)
	if x == nil {
		t.Fatalf("%v, at %s", f, text[f.At:])
	}
	return x
}

// labels are a text without its labels (an @ and a digit), and which of these stand where.
func labels(text string) (string, map[int]string) {
	parts := strings.Split(text, "@")
	clean, places := parts[0], map[int]string{}
	for _, part := range parts[1:] {
		places[len(clean)] += part[:1]
		clean += part[1:]
	}
	return clean, places
}

// words are what kinds of issues are called.
var words = []string{"", "Flows", "Differ", "Asked", "Unborn", "Empty", "Below", "Option"}

// said is a place: what its node is called (a method with its class, what has no name with its label), and the layer; a - is none.
func said(x *base.Info, marks map[int]string, p strict.Place) string {
	if p == strict.Nowhere() {
		return "-"
	}
	n := x.Node(p.Node)
	switch n.Kind {
	case api.Method:
		n.Text = x.Bodies()[x.Within(p.Node)].Owner + "." + n.Text
	case api.NewArray, api.Cast:
		n.Text = tree.Name(n.Kind) + marks[n.From]
	}
	return n.Text + strconv.Itoa(p.Layer)
}

// place is the place that is called so; Nowhere, if there is none.
func place(x *base.Info, marks map[int]string, name string) strict.Place {
	for _, p := range Places(x.Tree()) {
		if said(x, marks, p) == name {
			return p
		}
	}
	return strict.Nowhere()
}

// told is what was found of a program, some of whose places, by their names, are shut: the marks; the guards, behind a !; the cuts, behind an X; the steps, behind a colon; how many rounds there were. Else what is wrong, and at which label.
func told(t *testing.T, text string, asks bool, shut ...string) string {
	t.Helper()
	text, marks := labels(text)
	x := known(t, text)
	var places []strict.Place
	for _, name := range shut {
		places = append(places, place(x, marks, name))
	}
	hold(t, text, asks, places...)
	r, f := Solve(x, asks, places...)
	if r == nil {
		return "errno " + strconv.Itoa(int(f.Code)) + " at " + marks[f.At]
	}
	var list []string
	for _, p := range r.Marked() {
		list = append(list, said(x, marks, p))
	}
	for _, node := range r.Guards() {
		list = append(list, "!"+tree.Name(x.Node(node).Kind)+marks[x.Node(node).From])
	}
	for _, node := range r.Cuts() {
		list = append(list, "X"+tree.Name(x.Node(node).Kind)+marks[x.Node(node).From])
	}
	line := strings.Join(list, " ") + ": "
	for _, s := range r.Steps() {
		line += words[s.Why] + " " + tree.Name(x.Node(s.At).Kind) + marks[x.Node(s.At).From] + " " + said(x, marks, s.From) + " " + said(x, marks, s.To) + ", "
	}
	return line + strconv.Itoa(r.Rounds())
}

// main is what each program has.
const main = "class Main { int main() { return 1; } } "

// row is a program but for Main, and what is found of it.
type row struct{ text, want string }

// rows holds what is found of programs to these.
func rows(t *testing.T, asks bool, list []row) {
	t.Helper()
	for _, r := range list {
		if got := told(t, main+r.text, asks); got != r.want {
			t.Errorf("%s: %s, not %s", r.text, got, r.want)
		}
	}
}
