package trace

import (
	"math"
	"slices"
	"strconv"
	"strings"
	"testing"
	"unsafe"

	"caulker/api"
	"caulker/infer"
	"caulker/plan"
	"caulker/strict"
)

// P28.1: a text that is too long; of another one than the plan's nothing is promised but that the calls end.
func TestTexts(t *testing.T) {
	text := main + "class A { A f; void g() { this.f.g(); } }"
	p := made(t, text, true)
	for _, other := range []string{"", "\x00", "class", strings.Repeat("\n", 1<<16), strings.Repeat(" ", 1<<16+1), strings.Repeat("\xff", 1<<17)} {
		x, e := Of(other, p, p.Changes())
		if long := len(other) > 1<<16; long && (x != nil || e != api.ErrLong) || !long && (x == nil || e != api.OK) {
			t.Errorf("%.9q: %v", other, e)
		}
		if x != nil && (len(x.Lines()) != 2 || len(x.Causes()) != 2 || !x.Real()) {
			t.Errorf("%.9q", other)
		}
	}
}

// P1: changes that are none of the plan's.
func TestChanges(t *testing.T) {
	text := main + "class A { A f; int n; void g(A[] a) { this.f.g(new A[1]); } }"
	p := made(t, text, true)
	marked := p.Result().Marked()
	numbers := []int{math.MinInt, -2, -1, 0, 1, 2, 7, p.Result().Info().Len() - 1, p.Result().Info().Len(), math.MaxInt - 1, math.MaxInt}
	var list []plan.Change
	for _, kind := range numbers {
		for _, node := range numbers {
			for _, layer := range numbers {
				list = append(list, plan.Change{Edit: api.Edit{Span: api.Span{From: node, To: layer}, Text: strconv.Itoa(kind)}, Kind: kind, Place: strict.Place{Node: node, Layer: layer}})
			}
		}
	}
	x, e := Of(text, p, list)
	if e != api.OK || len(x.Lines()) != len(list) || x.Real() {
		t.Errorf("%v", e)
	}
	for i, c := range x.Causes() {
		if c.Change != list[i] || len(c.Steps) > 0 && (c.Change.Kind == plan.Mark && !slices.Contains(marked, c.Change.Place) || c.Change.Kind != plan.Mark && c.Change.Kind != plan.Asked && c.Change.Kind != plan.Given) {
			t.Errorf("%v", c)
		}
	}
}

// P28.3: a mark at a place that has none isn't Real; other kinds of changes are.
func TestReal(t *testing.T) {
	text := main + "class A { A f; Main s; init() { this.s = new Main(); } void g(A a) { this.f.g(a); } }"
	p := made(t, text, true)
	list := p.Changes()
	unmarked := strict.Place{Node: list[0].Place.Node + 1}
	if p.Result().Info().Node(unmarked.Node).Text != "s" || slices.Contains(p.Result().Marked(), unmarked) {
		t.Fatal(unmarked)
	}
	for kind, want := range map[int]bool{plan.Mark: false, plan.Asked: true, plan.Given: true, plan.Dead: true, plan.Wrapped: true, 0: true, 6: true} {
		x, _ := Of(text, p, append(p.Changes(), plan.Change{Kind: kind, Place: unmarked}))
		if x.Real() != want {
			t.Errorf("of the kind %d: %t", kind, x.Real())
		}
	}
}

// P28.3: ways that can't be, which no call makes.
func TestUnreal(t *testing.T) {
	text := main + "class A { A f; void g() { A a = this.f; A b = a; } }"
	p := made(t, text, true)
	list := p.Changes()
	x, _ := Of(text, p, list)
	ways := x.Causes()
	if len(list) != 3 || len(ways[2].Steps) != 3 || !x.Real() {
		t.Fatal(ways)
	}
	whole, nought := ways[2].Steps, infer.Step{From: strict.Nowhere(), To: ways[2].Change.Place, Why: strict.Flows, At: last(ways)}
	for what, steps := range map[string][]infer.Step{
		"none": nil, "not from its beginning on": whole[1:], "not to its end": whole[:2], "a step left out": {whole[0], whole[2]}, "not in order": {whole[1], whole[0], whole[2]}, "one twice": {whole[0], whole[1], whole[1], whole[2]}, "a step that wasn't found": {nought}, "one that wasn't found, ahead": {{From: strict.Nowhere(), To: whole[0].From}, whole[0], whole[1], whole[2]},
	} {
		x.causes[2].Steps = steps
		if x.Real() {
			t.Error(what)
		}
		x.causes[2].Change.Kind = plan.Asked
		if right := what == "none" || what == "not to its end"; x.Real() != right {
			t.Errorf("%s, of a guard", what)
		}
		x.causes[2].Change.Kind = plan.Mark
	}
}

// last is the node of the last step of some causes.
func last(causes []Cause) int {
	steps := causes[len(causes)-1].Steps
	return steps[len(steps)-1].At
}

// P1: a long way, and many changes.
func TestLong(t *testing.T) {
	text := main + "class A { A f; void g(A a0) { A b = this.f; "
	fields := ""
	for i := range 60 {
		fields += "void g" + strconv.Itoa(i) + "(A a) { this.g" + strconv.Itoa(i+1) + "(a); }\n"
	}
	text += "this.g0(b); } " + fields + "void g60(A a) { a.f" + strings.Repeat(".f", 200) + ".g0(a); } }"
	p := made(t, text, false)
	causes := hold(t, text, p, p.Changes())
	if len(causes) != 1+1+61+202 || len(causes[62].Steps) != 63 {
		t.Errorf("%d causes, %d steps", len(causes), len(causes[62].Steps))
	}
}

// P1: a text of as many bytes as may be, with the changes at its end.
func TestEnd(t *testing.T) {
	text := strings.Repeat("\n", 1<<16-41) + "class Main { Main m; int main(){return 1;} "
	text = strings.Repeat("\n", 1<<16-len(strings.TrimLeft(text, "\n"))-1) + strings.TrimLeft(text, "\n") + "}"
	p := made(t, text, true)
	x, e := Of(text, p, append(p.Changes(), plan.Change{Edit: api.Edit{Span: api.Span{From: 1 << 16, To: 1 << 16}, Text: "!"}}))
	line := strconv.Itoa(strings.Count(text, "\n") + 1)
	if want := []string{line + ":18 ? m: no value yet at " + line + ":1 to m", line + ":45 \"!\""}; e != api.OK || !slices.Equal(x.Lines(), want) {
		t.Errorf("%v: %v, not %v", e, x.Lines(), want)
	}
}

// spoil changes all of a list, its spare room too.
func spoil[T any](list []T, to T) {
	for i := range list[:cap(list)] {
		list[:cap(list)][i] = to
	}
}

// told is all that a trace answers.
func told(x *Trace) string {
	text := strings.Join(x.Lines(), "\n") + strconv.FormatBool(x.Real())
	for _, c := range x.Causes() {
		text += "\n" + c.Change.Text
		numbers := []int{c.Change.From, c.Change.To, c.Change.Kind, c.Change.Place.Node, c.Change.Place.Layer}
		for _, s := range c.Steps {
			numbers = append(numbers, s.From.Node, s.From.Layer, s.To.Node, s.To.Layer, s.Why, s.At)
		}
		for _, n := range numbers {
			text += " " + strconv.Itoa(n)
		}
	}
	return text
}

// P2: neither text, plan nor changes are kept or changed, and what is answered is new memory each time.
func TestMemory(t *testing.T) {
	bytes, change := []byte(main+"class A { A f; void g() { A a = this.f; a.g(); a.g(); } }"), []byte("none")
	text := unsafe.String(&bytes[0], len(bytes))
	p := made(t, strings.Clone(text), true)
	list := append(p.Changes(), plan.Change{Kind: plan.Wrapped, Edit: api.Edit{Text: unsafe.String(&change[0], 4)}}, plan.Change{Kind: 77})
	before := slices.Clone(list)
	list = list[: len(list)-1 : len(list)]
	x, e := Of(text, p, list)
	y, _ := Of(text, p, list)
	if e != api.OK || !slices.Equal(list[:cap(list)], before) {
		t.Fatalf("%v: %v", e, list)
	}
	want := told(x)
	spoil(bytes, '\n')
	spoil(change, '-')
	spoil(list, plan.Change{Kind: 3, Edit: api.Edit{Text: "x"}})
	for range 2 {
		causes := x.Causes()
		for _, c := range causes {
			spoil(c.Steps, infer.Step{At: 99})
		}
		spoil(causes, Cause{})
		spoil(x.Lines(), "x")
		spoil(p.Changes(), plan.Change{})
		*p.Result() = infer.Result{}
		if told(x) != want || told(y) != want {
			t.Fatalf("%s\n\n%s, not\n\n%s", told(x), told(y), want)
		}
	}
	*p = plan.Plan{}
	if told(x) != want {
		t.Errorf("%s, not %s", told(x), want)
	}
}
