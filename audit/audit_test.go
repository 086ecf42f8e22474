package audit

import (
	"math"
	"slices"
	"strings"
	"testing"

	"caulker/api"
	"caulker/base"
	"caulker/edit"
	"caulker/eval"
	"caulker/migrate"
	"caulker/strict"
)

// main is what each program has.
const main = "class Main { int main() { return 1; } } "

// fits is a text's program.
func fits(t *testing.T, text string) *base.Info {
	t.Helper()
	x, f := strict.Fits(text)
	if x == nil {
		t.Fatalf("%v, at %s", f, text[f.At:])
	}
	return x
}

// put is an edit by which a text stands in the place of a span.
func put(from, to int, text string) api.Edit {
	return api.Edit{Span: api.Span{From: from, To: to}, Text: text}
}

// P30.2: whether two runs are both done, answer and print the same.
func TestSame(t *testing.T) {
	out := []api.Out{{Base: api.Int, N: 7}, {Base: api.Str, S: "so"}}
	run := api.Run{End: api.Done, Result: 3, Out: out, Steps: 9}
	for what, x := range map[string]struct {
		run  api.Run
		same bool
	}{
		"itself":               {run, true},
		"other steps":          {api.Run{End: api.Done, Result: 3, Out: slices.Clone(out), Steps: 90}, true},
		"another answer":       {api.Run{End: api.Done, Result: 4, Out: out, Steps: 9}, false},
		"less":                 {api.Run{End: api.Done, Result: 3, Out: out[:1], Steps: 9}, false},
		"nothing":              {api.Run{End: api.Done, Result: 3, Steps: 9}, false},
		"more":                 {api.Run{End: api.Done, Result: 3, Out: append(slices.Clone(out), out[0]), Steps: 9}, false},
		"another text":         {api.Run{End: api.Done, Result: 3, Out: []api.Out{out[0], {Base: api.Str, S: "no"}}}, false},
		"another number":       {api.Run{End: api.Done, Result: 3, Out: []api.Out{{Base: api.Int, N: 8}, out[1]}}, false},
		"a bool":               {api.Run{End: api.Done, Result: 3, Out: []api.Out{{Base: api.Bool, N: 7}, out[1]}}, false},
		"the other way round":  {api.Run{End: api.Done, Result: 3, Out: []api.Out{out[1], out[0]}}, false},
		"null is asked":        {api.Run{End: api.NullFault, Result: 3, Out: out, Steps: 9}, false},
		"out of fuel":          {api.Run{End: api.OutOfFuel, Result: 3, Out: out, Steps: 9}, false},
		"no end":               {api.Run{Result: 3, Out: out, Steps: 9}, false},
		"a why":                {api.Run{End: api.Done, Why: api.ErrLong, Result: 3, Out: out}, true},
		"an end that is none":  {api.Run{End: math.MaxInt, Result: 3, Out: out}, false},
		"an end far below one": {api.Run{End: math.MinInt, Result: 3, Out: out}, false},
	} {
		if Same(run, x.run) != x.same || Same(x.run, run) != x.same {
			t.Errorf("%s: %t", what, !x.same)
		}
		if Same(x.run, x.run) != (x.run.End == api.Done) {
			t.Errorf("%s, twice", what)
		}
	}
	if !Same(api.Run{End: api.Done, Out: []api.Out{}}, api.Run{End: api.Done}) {
		t.Error("nothing printed")
	}
}

// program is one whose main has such a body.
func program(t *testing.T, body string) *base.Info {
	t.Helper()
	return fits(t, "class Main { Main m; int n; int main() { "+body+" } }")
}

// P30.2: whether a program runs as another one does, and never asks null.
func TestRuns(t *testing.T) {
	for _, x := range []struct {
		one, other string
		fuel       int
		runs, back bool // the other way round
	}{
		{"return 2;", "return 2;", 100, true, true},
		{"return 2;", "return 3;", 100, false, false},
		{"return 2;", "return 3;", 2, true, true}, // neither is done, with less than eleven steps
		{"return 2;", "print(2); return 2;", 100, false, false},
		{"print(1); return 2;", "print(2); return 2;", 100, false, false},
		{"print(1); return 2;", "print(0 + 1); return 1 + 1;", 100, true, true},
		{"return input();", "return input() + 0;", 100, true, true},
		// null is asked by one, or both
		{"return this.m.n;", "return this.m.n;", 100, false, false},
		{"return this.m.n;", "return this.m!.n;", 100, true, false},
		{"return this.m.n;", "while (true) { } return 2;", 100, true, false},
		{"return this.m.n;", "return 1 / 0;", 100, true, false},
		{"return this.m.n;", "return 0;", 100, false, false},
		{"return this.m.n;", "return this.m.n;", 3, true, true},
		{"return this.m!.n;", "return this.m!.n;", 100, true, true},
		{"return 1 / 0;", "return 2 / 0;", 100, true, true},
		{"return 1;", "return 1 / 0;", 100, false, false},
		// three steps of fuel, and four times as much and four
		{"return 2;", strings.Repeat("{ } ", 13) + "return 2;", 3, true, true},
		{"return 2;", strings.Repeat("{ } ", 14) + "return 2;", 3, false, false},
		{"return 2;", strings.Repeat("{ } ", 14) + "return 2;", 4, true, true},
		{"return 2;", strings.Repeat("{ } ", 14) + "return 2;", 2, true, true},
		{"return 2;", "while (true) { } return 2;", 1000, false, false},
		{"return 2;", "while (true) { } return 2;", 2, true, true},
		// less than nothing is nothing
		{"return 2;", "return 3;", 0, true, true},
		{"return 2;", "return 3;", -1, true, true},
		{"return 2;", "return 3;", math.MinInt, true, true},
		{"return 2;", "return 3;", math.MaxInt, false, false},
	} {
		one, other := program(t, x.one), program(t, x.other)
		if got := Runs(one, other, []int64{1}, x.fuel); got != x.runs {
			t.Errorf("%s, %s, %d: %t", x.one, x.other, x.fuel, got)
		}
		if got := Runs(other, one, []int64{1}, x.fuel); got != x.back {
			t.Errorf("%s, %s, %d: %t", x.other, x.one, x.fuel, got)
		}
	}
}

// P30.2: both programs read the same numbers.
func TestReads(t *testing.T) {
	one, other := program(t, "return input();"), program(t, "if (input() > 4) { return 9; } return 3;")
	for in, want := range map[int64]bool{3: true, 4: false, 9: true, 10: false} {
		if Runs(one, other, []int64{in}, 50) != want || Runs(other, one, []int64{in, 7, 7}, 50) != want {
			t.Errorf("%d: %t", in, !want)
		}
	}
	if Runs(one, other, nil, 50) {
		t.Error("nought is read")
	}
}

// P30.2: a run gets no more than 2^20 steps.
func TestMostFuel(t *testing.T) {
	const round = "int n = 0; while (n < 131000) { n = n + 1; } "
	rest := 1<<20 - eval.Run(program(t, round+"return 2;"), nil, 1<<21).Steps
	if rest < 1 || rest > 1000 {
		t.Fatal(rest)
	}
	for more, runs := range []bool{false, true} { // with one step more neither is done
		blocks := round + strings.Repeat("{ } ", rest+more)
		one, other := program(t, blocks+"return 2;"), program(t, blocks+"return 3;")
		for _, fuel := range []int{1 << 20, 1<<20 + 1, 1 << 30, math.MaxInt/4 - 1, math.MaxInt/4 + 1, math.MaxInt} {
			if Runs(one, other, nil, fuel) != runs {
				t.Errorf("%d: %t", fuel, !runs)
			}
		}
		if !Runs(one, other, nil, 1<<20-1) {
			t.Error("one step less")
		}
	}
}

// P30.3: whether something is wrong without any one of the edits.
func TestMinimal(t *testing.T) {
	text := main + "class A { A f; int n; void g() { this.f.g(); } }"
	mark, guard := put(len(main)+11, len(main)+11, "?"), put(len(main)+39, len(main)+39, "!")
	blank, end := put(0, 0, " "), put(len(text), len(text), " ")
	if got, e := edit.Apply(text, mark, guard); e != api.OK || got != main+"class A { A? f; int n; void g() { this.f!.g(); } }" {
		t.Fatal(got)
	}
	for what, x := range map[string]struct {
		list    []api.Edit
		minimal bool
	}{
		"nothing":                        {nil, true},
		"both":                           {[]api.Edit{mark, guard}, true},
		"the mark alone":                 {[]api.Edit{mark}, true},
		"the guard alone":                {[]api.Edit{guard}, true},
		"a blank at the beginning":       {[]api.Edit{blank, mark, guard}, false},
		"one between":                    {[]api.Edit{mark, put(len(main)+20, len(main)+20, " "), guard}, false},
		"one at the end":                 {[]api.Edit{mark, guard, end}, false},
		"a blank alone":                  {[]api.Edit{end}, true},
		"the guard twice":                {[]api.Edit{mark, guard, guard}, false},
		"the mark twice":                 {[]api.Edit{mark, mark, guard}, false},
		"the mark three times":           {[]api.Edit{mark, mark, mark, guard}, true},
		"an edit that does nothing":      {[]api.Edit{mark, put(15, 15, ""), guard}, false},
		"not in order":                   {[]api.Edit{guard, mark}, true},
		"not in order, and one more":     {[]api.Edit{guard, mark, end}, false},
		"one that may not be":            {[]api.Edit{put(5, 4, "")}, true},
		"one that may not be, and both":  {[]api.Edit{mark, guard, put(len(text), len(text)+1, "")}, false},
		"one that may not be, and marks": {[]api.Edit{mark, put(len(text), len(text)+1, "")}, false},
		"too long":                       {[]api.Edit{mark, put(len(text), len(text), strings.Repeat(" ", 1<<16)), end}, false},
	} {
		if got := Minimal(text, x.list...); got != x.minimal {
			t.Errorf("%s: %t", what, got)
		}
	}
	if !Minimal(main) || Minimal(main, end) || !Minimal("class") || !Minimal("", blank) || !Minimal(strings.Repeat(" ", 1<<16+1)) || Minimal(strings.Repeat(" ", 1<<16+1), blank) {
		t.Error("other texts")
	}
}

// texts are such as fit, without marks, in which there are marks, guards, options and checks to make.
var texts = []string{
	main,
	"class Main { Main m; int main() { print(1); return this.m.main(); } }",
	main + "class A { A f; int n; void g(A a) { A b = null; if (a == null || input() > 0) { b = this; } if (b != null) { print(b.n); } } }",
	"class Main { int n; Main m; int main() { Main a = ask(this); Main b = null; this.g(a); if (input() > 0) { b = this; } if (b != null) { b.m = a; } if (this.m != null) { print(a.n); } return a.n; } void g(Main a) { if (a == null) { return; } a.n = 3; } }",
	"class Main { int n; int main() { Main a = ask(this); this.g(a); a.n = 2; return this.n; } void g(Main a) { Main b = this; if (b == null) { a = null; } a.n = 3; } void h(Main a) { print(a.n); this.h(ask(a)); } }",
	"class Main { int main() { Main[][] a = new Main[][2]; a[0] = new Main[3]; if (a[0] == null) { return 4; } return a[input()].length; } }",
}

// P30.1, P30.4: what comes of texts of all kinds is fine, in every mode.
func TestLook(t *testing.T) {
	for _, mode := range migrate.Modes() {
		for _, text := range append([]string{
			"", "\x00", "class", "\"", main + main, main + "class A { A f; A g() { } }", strings.Repeat(" ", 1<<16+1),
			main + "class A { A? f; void g() { A a = this.f; } }", main + "class A { A? f; void g() { A a = this.f!; if (a == null) { } } }",
			main + "class A { A f; }" + strings.Repeat(" ", 1<<16-len(main)-16), main + "class A { A f; void g(A a) { A b = null; if (a == null) { } } }" + strings.Repeat(" ", 1<<14),
		}, texts...) {
			for fuel, in := range [][]int64{nil, {1}, {2, 1, 1}, {0, 1, 1, 1}, {math.MaxInt64, math.MinInt64}} {
				if k := Look(text, mode, in, 20*fuel); k != Fine {
					t.Errorf("%v: %d: %.200s", mode, k, text)
				}
			}
		}
	}
}

// The chapter's example.
func TestExample(t *testing.T) {
	for _, demands := range []bool{false, true} {
		mode := migrate.Mode{Guards: true, Demands: demands}
		o, f := migrate.Migrate(texts[1], mode)
		if f.Code != api.OK || Look(texts[1], mode, nil, 100) != Fine || !Minimal(texts[1], o.Edits...) {
			t.Errorf("%v: %v", mode, f)
		}
		if Minimal(texts[1], append([]api.Edit{put(5, 5, " ")}, o.Edits...)...) {
			t.Errorf("%v: with a blank", mode)
		}
	}
}

// P2: what is handed in is neither changed nor kept, its spare room neither.
func TestMemory(t *testing.T) {
	text := texts[1]
	o, _ := migrate.Migrate(text, migrate.Mode{Guards: true})
	list := append(slices.Clone(o.Edits), put(1, 2, "x"), put(3, 4, "y"))
	before := slices.Clone(list)
	if !Minimal(text, list[:2]...) || !slices.Equal(list, before) {
		t.Errorf("%v", list)
	}
	in := []int64{1, 2, 3, 4}
	x, y := fits(t, text), fits(t, o.Text)
	first := api.Run{End: api.Done, Out: []api.Out{{N: 1}, {N: 2}, {N: 3}}[:2]}
	for range 2 {
		if !Runs(x, y, in[:2], 100) || Look(text, migrate.Mode{}, in[:2], 100) != Fine || !Same(first, first) {
			t.Error("runs")
		}
	}
	if !slices.Equal(in, []int64{1, 2, 3, 4}) || first.Out[:3][2].N != 3 {
		t.Errorf("%v, %v", in, first)
	}
}
