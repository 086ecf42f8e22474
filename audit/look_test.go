package audit

import (
	"slices"
	"strings"
	"testing"

	"caulker/api"
	"caulker/migrate"
)

// answered is what a text that fits is answered in a mode, and is to be run with.
func answered(t *testing.T, text string, mode migrate.Mode) answer {
	t.Helper()
	o, f := migrate.Migrate(text, mode)
	if f.Code != api.OK {
		t.Fatal(f)
	}
	return answer{text: text, mode: mode, out: o, fuel: 200}
}

// with is an answer with edits put in among those that it has, in order; its text is what they make.
func (a answer) with(more ...api.Edit) answer {
	a.out.Edits = append(slices.Clone(a.out.Edits), more...)
	slices.SortStableFunc(a.out.Edits, func(x, y api.Edit) int { return x.From - y.From })
	text := a.text
	for _, e := range slices.Backward(a.out.Edits) {
		text = text[:e.From] + e.Text + text[e.To:]
	}
	a.out.Text = text
	return a
}

// P30.1: of texts that are no programs the fault must be that which they have.
func TestFaults(t *testing.T) {
	right := api.Fault{Code: api.ErrSign, At: len(main)}
	for _, mode := range migrate.Modes() {
		for f, want := range map[api.Fault]int{
			right: Fine, {}: Other, {Code: api.ErrSign}: Other, {Code: api.ErrSign, At: len(main) + 1}: Other, {Code: api.ErrLong, At: len(main)}: Other, {At: len(main)}: Other, {Code: api.ErrMark}: Other, {Code: api.ErrGuard}: Other,
		} {
			if k := (answer{text: main + "#", mode: mode, fault: f}).found(); k != want {
				t.Errorf("%v: %d, not %d", f, k, want)
			}
		}
	}
}

// P30.1: of programs that fit but some faults are none that may be.
func TestRefused(t *testing.T) {
	plain, marked := texts[1], strings.Replace(texts[1], "Main m", "Main? m", 1)
	for _, mode := range migrate.Modes() {
		for code := range api.ErrLost + 2 {
			if code == api.OK {
				continue
			}
			for at := range 2 {
				for text, may := range map[string]bool{
					plain:  code == api.ErrLong || code == api.ErrGuard && !mode.Guards,
					marked: code == api.ErrLong || code == api.ErrGuard && !mode.Guards || code == api.ErrMark,
				} {
					want := Refused
					if may {
						want = Fine
					}
					if k := (answer{text: text, mode: mode, fault: api.Fault{Code: code, At: at}}).found(); k != want {
						t.Errorf("%v, %v: %d, not %d", mode, code, k, want)
					}
				}
			}
		}
	}
}

// P30.1: whatever is wrong with an output is found, what the document names first ahead of all else.
func TestFound(t *testing.T) {
	text := "class Main { Main m; int n; int main() { this.n = 7; print(1); return this.m.n; } }"
	fine := answered(t, text, migrate.Mode{Guards: true})
	n := strings.Index(text, "7")
	same, blank, other := put(0, 0, ""), put(0, 0, " "), put(n, n+1, "1 / 0")
	if fine.found() != Fine || len(fine.out.Edits) != 2 {
		t.Fatal(fine.out)
	}
	for what, x := range map[string]struct {
		change func(a *answer)
		want   int
	}{
		"nothing":                {func(a *answer) {}, Fine},
		"the text is as it was":  {func(a *answer) { a.out.Text = text }, Wrong},
		"no text":                {func(a *answer) { a.out.Text = "" }, Wrong},
		"a mark is gone":         {func(a *answer) { a.out.Edits = a.out.Edits[1:]; *a = a.with() }, Wrong},
		"a guard is gone":        {func(a *answer) { a.out.Edits = a.out.Edits[:1]; *a = a.with() }, Wrong},
		"no edits":               {func(a *answer) { a.out.Edits = nil }, Moved},
		"edits twice":            {func(a *answer) { a.out.Edits = slices.Concat(a.out.Edits, a.out.Edits) }, Moved},
		"edits not in order":     {func(a *answer) { slices.Reverse(a.out.Edits) }, Moved},
		"a blank too much":       {func(a *answer) { a.out.Text += " " }, Moved},
		"another program's text": {func(a *answer) { a.out.Text = main }, Moved},
		"another program":        {func(a *answer) { *a = a.with(other) }, Other},
		"one that runs as it":    {func(a *answer) { *a = a.with(put(n, n+1, "8")) }, Other},
		"a blank":                {func(a *answer) { *a = a.with(blank) }, Idle},
		"an edit of nothing":     {func(a *answer) { *a = a.with(same) }, Idle},
		"a guard twice":          {func(a *answer) { *a = a.with(a.out.Edits[1]) }, Idle},
		"no line":                {func(a *answer) { a.out.Trace = nil }, Untold},
		"a line too few":         {func(a *answer) { a.out.Trace = a.out.Trace[1:] }, Untold},
		"a line too many":        {func(a *answer) { a.out.Trace = append(a.out.Trace, "") }, Untold},
		"a mark too many":        {func(a *answer) { a.out.Marks++ }, Untold},
		"a guard too few":        {func(a *answer) { a.out.Guards-- }, Untold},
		"a guard for a mark":     {func(a *answer) { a.out.Guards, a.out.Marks = a.out.Guards+1, a.out.Marks-1 }, Fine},
		// with options, or checks left out
		"a blank, and options":         {func(a *answer) { *a = a.with(blank); a.out.Options = 1 }, Fine},
		"a blank, and checks":          {func(a *answer) { *a = a.with(blank); a.out.Checks = 1 }, Fine},
		"another program, and options": {func(a *answer) { *a = a.with(other); a.out.Options = 1 }, Other},
		"another program, and checks":  {func(a *answer) { *a = a.with(put(n, n+1, "8")); a.out.Checks = 1 }, Fine},
		"checks, and it doesn't end":   {func(a *answer) { *a = a.with(put(n, n+1, "1 / 0")); a.out.Checks = 1 }, Fine}, // neither does the program
		"checks, and it ends": {func(a *answer) {
			a.out = migrate.Output{Text: main, Edits: []api.Edit{put(0, len(text), main)}, Checks: 1}
		}, Parted},
		"checks, no line, and it ends": {func(a *answer) {
			a.out = migrate.Output{Text: main, Edits: []api.Edit{put(0, len(text), main)}, Checks: 1, Marks: 1}
		}, Untold},
		"checks, and it ends, but not so early": {func(a *answer) {
			a.out = migrate.Output{Text: main, Edits: []api.Edit{put(0, len(text), main)}, Checks: 1}
			a.fuel = 2
		}, Fine},
		// several at once
		"wrong, and moved":              {func(a *answer) { a.out.Text = text + " " }, Wrong},
		"moved, another, and untold":    {func(a *answer) { a.out.Text = main; a.out.Trace = nil }, Moved},
		"another, idle, and untold":     {func(a *answer) { *a = a.with(other, blank); a.out.Trace = nil }, Other},
		"idle, and untold":              {func(a *answer) { *a = a.with(blank); a.out.Trace = nil }, Idle},
		"a fault, and all else":         {func(a *answer) { a.fault.Code = api.ErrLost; a.out = migrate.Output{} }, Refused},
		"a fault that may be, and else": {func(a *answer) { a.fault.Code = api.ErrLong; a.out = migrate.Output{} }, Fine},
	} {
		a := fine
		a.out.Edits, a.out.Trace = slices.Clone(a.out.Edits), slices.Clone(a.out.Trace)
		x.change(&a)
		if k := a.found(); k != x.want {
			t.Errorf("%s: %d, not %d: %+v", what, k, x.want, a.out)
		}
	}
}

// P30.1: runs are with the numbers that are told.
func TestNumbers(t *testing.T) {
	text := "class Main { Main m; int main() { if (input() > 3) { return 1; } return 2; } }"
	a := answered(t, text, migrate.Mode{})
	made := strings.Replace(text, "input() > 3", "false", 1)
	a.out = migrate.Output{Text: strings.Replace(made, "Main m", "Main? m", 1), Edits: []api.Edit{put(0, len(text), strings.Replace(made, "Main m", "Main? m", 1))}, Checks: 1}
	for in, want := range map[int64]int{3: Fine, 4: Parted} {
		a.in = []int64{in}
		if k := a.found(); k != want {
			t.Errorf("%d: %d, not %d", in, k, want)
		}
	}
}

// P30.1: a program that has marks, and with which nothing is wrong, is what it is, erased.
func TestErased(t *testing.T) {
	text := main + "class A { A? f; A? g() { Option<A> o = none; if (o is none) { } return this.f!; } }"
	for _, mode := range migrate.Modes() {
		if a := answered(t, text, mode); a.found() != Fine || a.out.Text != text {
			t.Errorf("%v: %v", mode, a.out)
		}
	}
}
