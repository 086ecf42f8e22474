package plan

import (
	"math"
	"slices"
	"strconv"
	"strings"
	"testing"
	"unsafe"

	"caulker/api"
	"caulker/base"
	"caulker/infer"
	"caulker/strict"
	"caulker/tree"
)

// P24.4: the text behind some of the changes, as a program, or none.
func TestProgram(t *testing.T) {
	text := main + "class A { A f; void g() { this.f.g(); this.f.g(); } }"
	p, f := Make(text, true, true)
	if p == nil || len(p.Changes()) != 3 {
		t.Fatal(f)
	}
	list := p.Changes()
	for _, x := range []struct {
		what string
		list []Change
		made string
	}{
		{"all", list, "class A { A? f; void g() { this.f!.g(); this.f!.g(); } }"},
		{"none", nil, ""},
		{"without the mark", list[1:], ""},
		{"without a guard", list[:2], ""},
		{"the mark twice", append([]Change{list[0]}, list...), ""},
		{"a guard twice", append(slices.Clone(list), list[2]), "class A { A? f; void g() { this.f!.g(); this.f!!.g(); } }"},
		{"not in order", []Change{list[1], list[0], list[2]}, ""},
		{"behind the text", append(slices.Clone(list), change(len(text), len(text)+1, Dead, 0, "")), ""},
		{"at its end", append(slices.Clone(list), change(len(text), len(text), Dead, 0, " ")), "class A { A? f; void g() { this.f!.g(); this.f!.g(); } }"},
		{"ahead of the text", append([]Change{change(-1, 0, Dead, 0, "")}, list...), ""},
		{"one over the other", append(slices.Clone(list[:2]), change(list[1].From-1, list[1].From, Dead, 0, ""), list[2]), ""},
		{"too much", append(slices.Clone(list), change(len(text), len(text), Dead, 0, strings.Repeat(" ", 1<<16+1))), ""},
		{"no program", append(slices.Clone(list), change(len(text), len(text), Dead, 0, "x")), ""},
		{"another kind", append([]Change{change(list[0].From, list[0].From, 99, -7, "?")}, list[1:]...), "class A { A? f; void g() { this.f!.g(); this.f!.g(); } }"},
		{"the whole", []Change{change(0, len(text), math.MinInt, math.MaxInt, "class Main { int main() { return 2; } }")}, "class Main { int main() { return 2; } }"},
		{"backwards", []Change{change(9, 4, Mark, 0, "")}, ""},
		{"far out", []Change{change(math.MinInt, math.MaxInt, Mark, 0, "")}, ""},
	} {
		y, ok := Program(text, x.list)
		if ok != (x.made != "") || ok != (y != nil) {
			t.Errorf("%s: %t", x.what, ok)
		} else if ok {
			want := fits(t, strings.Replace(main+x.made, main+main[:11], main[:11], 1))
			if !tree.Same(y.Tree(), want.Tree()) {
				t.Errorf("%s: %s", x.what, tree.Form(y.Tree(), y.Tree().Root))
			}
		}
	}
}

// P24.4: texts that are no programs, and such as are without any changes.
func TestProgramTexts(t *testing.T) {
	for text, want := range map[string]bool{
		main: true, main + "class A { A? f; Option<A> o; init() { this.o = none; } }": true, main + "class A { A f; }": false, "": false, "\x00": false, main + "class": false, main + "class A { B f; }": false,
		main + strings.Repeat(" ", 1<<16): false, strings.Repeat(" ", 1<<16-len(main)) + main: true, main + "class A { int g() { int a; return a; } }": false, main + "class A { A? f; void g() { this.f.g(); } }": false, main + "class A { void g(A? a) { a.g(a); a.g(a); } }": false,
	} {
		if y, ok := Program(text, nil); ok != want || (y != nil) != want {
			t.Errorf("%.80s: %t", text, ok)
		}
	}
}

// P24.4: there is no program, if the edits may not be made, even if there is one without them.
func TestProgramEdits(t *testing.T) {
	for _, list := range [][]Change{{change(0, len(main)+1, Mark, 0, "")}, {change(3, 3, Mark, 0, " "), change(0, 0, Mark, 0, " ")}, make([]Change, 4097)} {
		if y, ok := Program(main, list); y != nil || ok {
			t.Errorf("%.3v: %t", list, ok)
		}
	}
	if y, ok := Program(main, make([]Change, 4096)); y == nil || !ok {
		t.Error("edits that change nothing")
	}
}

// P24.1: texts of all kinds.
func TestTexts(t *testing.T) {
	long := strings.Repeat(" ", 1<<16+1)
	for text, want := range map[string]api.Fault{
		"": {Code: api.ErrMain}, "\xff": {Code: api.ErrSign}, long: {Code: api.ErrLong}, main + "\"": {Code: api.ErrOpen, At: len(main)}, main + "class Main { }": {Code: api.ErrTwice, At: len(main)}, "class Main { void main() { } }": {Code: api.ErrMain},
	} {
		for mode := range 4 {
			if p, f := Make(text, mode&1 == 1, mode&2 == 2); p != nil || f.Code != want.Code || f.At != want.At {
				t.Errorf("%.40q: %v, not %v", text, f, want)
			}
		}
	}
}

// P24.4: a text that gets too long, or needs too many edits, has a plan, but no text with all changes.
func TestTooLong(t *testing.T) {
	text := main + "class A { A f; void g() { this.f.g(); } }"
	for left := range 4 {
		long := text + strings.Repeat(" ", 1<<16-left-len(text))
		p, f := Make(long, true, true)
		if p == nil || len(p.Changes()) != 2 {
			t.Fatal(f)
		}
		made, e := p.Text()
		y, ok := Program(long, p.Changes())
		if left < 2 && (made != "" || e != api.ErrLong || y != nil || ok) || left >= 2 && (len(made) != len(long)+2 || e != api.OK || y == nil || !ok) {
			t.Errorf("%d bytes left: %v, %t", left, e, ok)
		}
	}
}

// fields are so many of them.
func fields(n int) string {
	text := ""
	for i := range n {
		text += "Main f" + strconv.Itoa(i) + "; "
	}
	return text
}

// P24.4: as many edits as may be, and one more.
func TestTooMany(t *testing.T) {
	for _, last := range []int{0, 1} {
		text := "class Main { int main() { return 1; } " + fields(62) + "Main g(Main a" + []string{"", ", Main b"}[last] + ") { this.g(null" + []string{"", ", null"}[last] + "); return null; } }"
		for i := range 63 {
			text += "class C" + strconv.Itoa(i) + " { " + fields(64) + "} "
		}
		p, f := Make(text, true, false)
		if p == nil || len(p.Changes()) != 4096+last {
			t.Fatal(f, p)
		}
		made, e := p.Text()
		if last == 0 && (e != api.OK || strings.Count(made, "?") != 4096) || last == 1 && (e != api.ErrLong || made != "") {
			t.Errorf("%d: %v", last, e)
		}
		if y, ok := Program(text, p.Changes()); y != nil || ok { // that many tokens may not be, either
			t.Errorf("%d: %t", last, ok)
		}
	}
}

// P1: values as deep in one another as may be.
func TestDeep(t *testing.T) {
	text := main + "class A { A f; A g(A a) { return this.f.g(" + strings.Repeat("this.f.g(", 56) + "null" + strings.Repeat(")", 56) + "); } }"
	for _, demands := range []bool{false, true} {
		if list := hold(t, text, true, demands); len(list) != 59 {
			t.Errorf("%d changes", len(list))
		}
	}
	chain := main + "class A { A f; A g() { return this" + strings.Repeat(".f", 4000) + "; } }"
	p, f := Make(chain, true, true)
	if p == nil || len(p.Changes()) != 4001 {
		t.Fatal(f)
	}
	if _, ok := Program(chain, p.Changes()); !ok {
		t.Error("something is wrong")
	}
}

// answers are all that a plan answers.
func answers(t *testing.T, p *Plan) string {
	t.Helper()
	made, e := p.Text()
	if e != api.OK {
		t.Fatal(e)
	}
	text := made + strconv.Itoa(p.Demands()) + tree.Form(p.Result().Info().Tree(), p.Result().Info().Tree().Root)
	for _, c := range p.Changes() {
		for _, n := range []int{c.From, c.To, c.Kind, c.Place.Node, c.Place.Layer} {
			text += " " + strconv.Itoa(n)
		}
		text += c.Text
	}
	return text
}

// spoil changes all of a list, its spare room too.
func spoil[T any](list []T, to T) {
	for i := range list[:cap(list)] {
		list[:cap(list)][i] = to
	}
}

// P2: what a plan answers is new memory each time, and a text may change behind the call.
func TestMemory(t *testing.T) {
	bytes := []byte(main + "class A { A f; void g(A a) { a.g(this.f); this.f.g(this.f.f); } }")
	text := unsafe.String(&bytes[0], len(bytes))
	p, f := Make(text, true, true)
	if p == nil {
		t.Fatal(f)
	}
	y, ok := Program(text, p.Changes())
	if !ok {
		t.Fatal("something is wrong")
	}
	form := tree.Form(y.Tree(), y.Tree().Root)
	want := answers(t, p)
	spoil(bytes, '-')
	spoil(p.Changes(), change(1, 2, 3, 4, "x"))
	*p.Result() = infer.Result{}
	q, _ := Make(main, true, true)
	if got := answers(t, p); got != want || answers(t, q) == want {
		t.Errorf("%s, not %s", got, want)
	}
	if got := tree.Form(y.Tree(), y.Tree().Root); got != form {
		t.Errorf("%s, not %s", got, form)
	}
	*y = base.Info{}
	if got := answers(t, p); got != want {
		t.Errorf("%s, not %s", got, want)
	}
}

// P2: Edits and Program neither change nor keep the changes; Sort touches nothing behind the list.
func TestLists(t *testing.T) {
	bytes := []byte("?!")
	list := []Change{change(2, 2, 1, 5, unsafe.String(&bytes[0], 1)), change(1, 1, 2, 6, unsafe.String(&bytes[1], 1)), change(0, 0, 3, 7, "c")}
	before := slices.Clone(list)
	edits, again := Edits(list[:2]), Edits(list[:2])
	Program(main, list[:2])
	spoil(again, api.Edit{Text: "x"})
	if !slices.Equal(list, before) {
		t.Errorf("%v", list)
	}
	spoil(bytes, '-')
	if edits[0].Text != "?" || edits[1].Text != "!" {
		t.Errorf("%v", edits)
	}
	Sort(list[:2])
	if list[0].From != 1 || list[1].From != 2 || list[2] != before[2] || list[0].Place != (strict.Place{Node: 6, Layer: -3}) {
		t.Errorf("%v", list)
	}
}
