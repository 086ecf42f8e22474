package prune

import (
	"math"
	"slices"
	"strings"
	"testing"

	"caulker/api"
	"caulker/plan"
	"caulker/strict"
)

// main is what each program has.
const main = "class Main { int main() { return 1; } } "

// put is a change by which something stands in the place of a span.
func put(from, to int, text string, kind int) plan.Change {
	return plan.Change{Edit: api.Edit{Span: api.Span{From: from, To: to}, Text: text}, Kind: kind, Place: strict.Place{Node: from, Layer: -1}}
}

// cut is a text in which changes are written as <what goes|what comes>, and these.
func cut(t *testing.T, written string) (string, []plan.Change) {
	t.Helper()
	text := ""
	var list []plan.Change
	for {
		ahead, behind, more := strings.Cut(written, "<")
		text += ahead
		if !more {
			return text, list
		}
		change, rest, ends := strings.Cut(behind, ">")
		goes, comes, parted := strings.Cut(change, "|")
		if !ends || !parted {
			t.Fatalf("no change: %s", change)
		}
		list = append(list, put(len(text), len(text)+len(goes), comes, plan.Mark+len(list)%5))
		text, written = text+goes, rest
	}
}

// shown is changes' texts in a row.
func shown(list []plan.Change) string {
	text := ""
	for _, c := range list {
		text += "[" + c.Text + "]"
	}
	return text
}

// cases are texts with changes, which ones are idle, which ones needed, and which ones are left.
var cases = []struct {
	what, text string
	idle       []int
	left       string
	wrong      bool // no program of all
}{
	{"nothing to change", main, nil, "", false},
	{"a mark", main + "class A { A<|?> f; }", nil, "[?]", false},
	{"the chapter's example", "class Main { Main<|?> m; int<| > main() { Main<|?> a = this.m; return a<|!>.main(); } }", []int{1}, "[?][?][!]", false},
	{"blanks alone", main + "<| ><| >class<| > A { <| >}<| >", []int{0, 1, 2, 3, 4}, "", false},
	{"words that go", main + "class A { <int a; |>bool b; <// no\n|><|// more\n> }", []int{0, 1, 2}, "", false},
	{"a word that must go", main + "class A { int a; <int a; |><int b; |> }", []int{1}, "[]", false},
	{"a word that comes for another one", "class Main { int main() { <rerun|return> <1|2>; } }", []int{1}, "[return]", false},
	{"two of one kind: the second one stays", main + "class A { A<|?> f; void g() { this.f<|!><|!>.g(); } }", []int{1, 2}, "[?][!]", false},
	{"three of one kind", main + "class A { A<|?> f; void g() { this.f<|!><|! ><|!  >.g(); } }", []int{1, 2, 3}, "[?][!  ]", false},
	{"two that need each other", "class Main { int main() { return <|(>1<|)>; } }", nil, "[(][)]", false},
	{"what is needed by one that isn't", main + "class A { A<|?> f; init(A<|?> a) { this.f = a; } }", []int{1}, "", false},
	{"a chain, from its end on", main + "class A { A<|?> f; A<|?> g; A<|?> h; init(A<|?> a) { this.h = a; this.g = this.h; this.f = this.g; } }", []int{3}, "", false},
	{"a chain, from its beginning on", main + "class A { A<|?> h; A<|?> g; A<|?> f; init(A a) { this.h = a; this.g = this.h; this.f = this.g; } }", []int{0}, "", false},
	{"what begins a chain stays", main + "class A { A<|?> f; void g() { A<|?> a = this.f; A<|?> b = a; A<|?> c = this; } }", []int{3}, "[?][?][?]", false},
	{"one goes on behind what was left out", "class Main { int main() { return <|1><|+><|2>; } }", []int{1}, "[1]", false},
	{"a round more", "class Main { int main() { return <|1><|+><|2><| >; } }", []int{1, 3}, "[1]", false},
	{"a mark is missing", main + "class A { A f; A<|?> g; }", nil, "[?]", true},
	{"a guard is missing", main + "class A { A<|?> f; void g() { this.f.g(); } }", nil, "[?]", true},
	{"a mark too much", main + "class A { A<|?><|?> f; }", []int{0, 1}, "[?][?]", true},
	{"a mark that may not be", main + "class A { int<|?> n; <| > }", []int{0}, "[?][ ]", true},
	{"a mark that is twice and one that isn't", main + "class A { A<|?><|?> f; A<|?> g; }", []int{0, 1}, "[?][?][?]", true},
	{"no text", "<| >", nil, "[ ]", true},
	{"no program", "class Main { int main() { return a; }<| > }", nil, "[ ]", true},
	{"a word too much", main + "<|x>class B { }", []int{0}, "[x]", true},
	{"two words too much", main + "<|x>class B { }<|x>", nil, "[x][x]", true},
}

// P27.1, P27.2: which changes are needed, which ones aren't, and which ones are left.
func TestCases(t *testing.T) {
	for _, x := range cases {
		text, list := cut(t, x.text)
		before := slices.Clone(list)
		if got := Idle(text, list); !slices.Equal(got, x.idle) {
			t.Errorf("%s: %v are idle, not %v", x.what, got, x.idle)
		}
		for k := range list {
			if Needed(text, list, k) == slices.Contains(x.idle, k) {
				t.Errorf("%s: needed: %d", x.what, k)
			}
		}
		left, n := Prune(text, list)
		if shown(left) != x.left || n != len(list)-len(left) {
			t.Errorf("%s: %s are left, not %s, and %d not", x.what, shown(left), x.left, n)
		}
		if _, ok := plan.Program(text, list); ok == x.wrong || !slices.Equal(list, before) {
			t.Errorf("%s: %t", x.what, ok)
		}
	}
}

// P27.1: of numbers of which there is no change none is needed, whatever the text is.
func TestNumbers(t *testing.T) {
	for _, written := range []string{main + "class A { A<|?> f; }", main + "class A { A f; int<|?> n; }", "<|x>", ""} {
		text, list := cut(t, written)
		for _, k := range []int{-1, len(list), len(list) + 1, math.MinInt, math.MaxInt, math.MinInt + 1} {
			if Needed(text, list, k) || Needed(text, list[:0], k) || Needed(text, nil, k) {
				t.Errorf("%d of %s", k, written)
			}
		}
	}
}

// P27.2: what is left is in order, with its kind and place.
func TestOrder(t *testing.T) {
	text, list := cut(t, main+"<| >class A { A<|?> f; int n;<| > A<|?> h; void g() { this.f<|!>.g(); } }<| >")
	left, n := Prune(text, list)
	if n != 3 || !slices.Equal(left, []plan.Change{list[1], list[3], list[4]}) {
		t.Errorf("%v, %d", left, n)
	}
}

// P27.3: with what is left nothing is wrong, and with any one left out something is.
func TestLeft(t *testing.T) {
	for _, x := range cases {
		if x.wrong {
			continue
		}
		text, list := cut(t, x.text)
		left, _ := Prune(text, list)
		if _, ok := plan.Program(text, left); !ok {
			t.Errorf("%s: something is wrong with %s", x.what, shown(left))
		}
		if again, n := Prune(text, left); n != 0 || !slices.Equal(again, left) || len(Idle(text, left)) > 0 {
			t.Errorf("%s: not all are needed: %s", x.what, shown(left))
		}
	}
}
