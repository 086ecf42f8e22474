package migrate

import (
	"math/rand"
	"slices"
	"strconv"
	"strings"
	"testing"

	"caulker/api"
	"caulker/base"
	"caulker/dead"
	"caulker/diff"
	"caulker/edit"
	"caulker/eval"
	"caulker/infer"
	"caulker/option"
	"caulker/plan"
	"caulker/prune"
	"caulker/strict"
	"caulker/trace"
	"caulker/tree"
)

// chance makes programs without marks, the same ones each time.
type chance struct {
	*rand.Rand
	names int
}

// pick is one of some.
func (c *chance) pick(list ...string) string { return list[c.Intn(len(list))] }

// name is one of the locals that each body has, or this.
func (c *chance) name() string { return c.pick("p", "q", "v", "w", "this") }

// full is a value of the type A of which something may be asked: it is a name, or in brackets where that may be needed.
func (c *chance) full(deep int) string {
	if deep == 0 {
		return c.name()
	}
	inner := c.full(deep - 1)
	return c.pick("p", "v", c.name(), "(w)", inner+".f", inner+".s", inner+".l["+c.number(deep-1)+"]", inner+".me()", inner+".g("+c.value(deep-1)+", "+c.value(deep-1)+")", "ask("+inner+")", "cast<A>("+inner+")")
}

// value is one of the type A.
func (c *chance) value(deep int) string {
	return c.pick("null", "this", c.full(deep), c.full(deep), c.pick("new A(", "new B(")+c.full(0)+")")
}

// number is an int.
func (c *chance) number(deep int) string {
	return c.pick("0", "1", "input()", "this.n", c.full(deep)+".n", "this.l.length")
}

// test is a condition.
func (c *chance) test(deep int) string {
	if deep == 0 {
		return c.pick("input() > 0", "input() > 1", "true")
	}
	return c.pick(c.name()+" == null", c.name()+" != null", "null == "+c.name(), "("+c.name()+") != null", c.value(deep-1)+" == "+c.name(), "!("+c.test(deep-1)+")", c.test(deep-1)+" && "+c.test(deep-1), "("+c.test(deep-1)+" || "+c.test(deep-1)+")")
}

// stats are statements, that of so many at most.
func (c *chance) stats(most, deep int) string {
	text := ""
	for range c.Intn(most + 1) {
		text += c.stat(deep)
	}
	return text
}

// stat is a statement.
func (c *chance) stat(deep int) string {
	c.names++
	own := "u" + strconv.Itoa(c.names)
	switch k := c.Intn(15); {
	case k < 3 || deep == 0:
		return c.pick("v = ", "w = ", "w = ", "p = ", "this.f = ", "this.s = ", "this.l[1] = ") + c.value(2) + "; "
	case k < 5:
		return "print(" + c.number(2) + "); " + c.pick("", c.full(1)+".n = "+c.number(1)+"; ")
	case k == 5:
		return "if (input() > 1) { " + c.full(1) + ".g(" + c.value(1) + ", " + c.value(1) + "); } "
	case k == 6:
		return "if (" + c.test(2) + ") { " + c.stats(3, deep-1) + "} " + c.pick("", "else { "+c.stats(2, deep-1)+"} ")
	case k == 7:
		return "while (input() > 0 && (" + c.test(2) + ")) { " + c.stats(3, deep-1) + c.pick("", "break; ", "continue; ") + "} "
	case k < 10: // one that may become an option
		return "A " + own + " = null; if (" + c.test(1) + ") { " + own + " = " + c.pick("this", "new A(this)", "p", "this.me()") + "; " + c.stats(2, deep-1) + "} if (" + own + " != null) { print(" + own + ".n); " + c.stats(2, deep-1) + "} "
	case k == 10: // one whose checks may be left out
		return "A " + own + " = " + c.pick("this", "new B(p)", "this.me()") + "; while (" + own + " == null) { " + c.stats(2, deep-1) + "} "
	case k == 11: // one that is demanded, and asked behind that
		name := c.pick("p", "v", "w")
		return "print(" + c.full(0) + ".k(" + name + ")); " + c.pick("", c.stat(0)) + name + ".n = 3; A " + own + " = " + name + "; " + own + ".me(); "
	case k == 12:
		return "this.l = " + c.pick("new A[3]", "p.l", "ask(this.l)", "null") + "; "
	}
	return "A " + own + " = " + c.value(2) + "; " + c.pick("", "if ("+own+" == null || "+own+".n > 1) { return; } ") + own + ".me(); "
}

// body is what a method is made of, that answers such a value; empty: none.
func (c *chance) body(answer string) string {
	text := "(A p, A q) { A v = " + c.pick("null", "p", "this", "ask(q)", "this.f") + "; A w = " + c.pick("this", "new A(p)", "null") + "; "
	if answer == "" {
		return text + c.stats(5, 2) + "} "
	}
	return text + strings.ReplaceAll(c.stats(4, 2), "return; ", "return "+answer+"; ") + "return " + answer + "; } "
}

// program is a whole one.
func (c *chance) program() string {
	text := "class A { int n; A f; A s; A[] l; init(A p) { this.n = 1; this.s = " + c.pick("p", "p", "this") + "; this.l = new A[2]; } A me() { return this; } "
	text += "A g" + c.body(c.pick("p", "this", "this.f")) + "void h" + c.body("") + "int k(A a) { " + c.pick("", "a.me(); ", "if (this.n > 0) { return a.n; } ", "if (a == null) { return 3; } ") + "return a.n; } } "
	text += "class B extends A { init(A p) { super(p); } A g" + c.body("this") + "} "
	text += "class Main { int main() { A x = new A(null); A y = new B(x); x.f = y; y.f = x; y.n = input(); "
	for range 4 {
		text += "if (input() > 0) { " + c.pick("x.h(y, x); ", "x.h(null, y); ", "y.h(x, x.f); ", "x = y.g(x, y); ", "print(y.g(y, null).n); ") + "} "
	}
	return text + "print(x.n); return y.n; } }"
}

// wanted goes by the document: what comes of a text in a mode.
func wanted(text string, mode Mode) (Output, api.Fault) {
	x, f := strict.Fits(text)
	if x == nil {
		return Output{}, f
	}
	if _, f := strict.Program(text); f == (api.Fault{}) {
		return Output{Text: text}, f
	}
	p, f := plan.Make(text, mode.Guards, mode.Demands)
	if p == nil {
		return Output{}, f
	}
	left, _ := prune.Prune(text, p.Changes())
	o := Output{Edits: plan.Edits(left)}
	for _, change := range left {
		switch change.Text {
		case "?":
			o.Marks++
		case "!":
			o.Guards++
		}
	}
	ways, _ := trace.Of(text, p, left)
	o.Trace = ways.Lines()
	o.Text, _ = edit.Apply(text, o.Edits...)
	before := o.Text
	if mode.Options {
		o.Text, o.Options, _ = option.Wrap(o.Text)
	}
	if mode.Dead {
		o.Text, o.Checks, _ = dead.Remove(o.Text)
	}
	if o.Text != before {
		o.Edits, _, _ = diff.Bytes(text, o.Text)
	}
	return o, api.Fault{}
}

// P29.1 to P29.3: of programs of all kinds that comes that the document tells, in every mode.
func TestModel(t *testing.T) {
	c := &chance{Rand: rand.New(rand.NewSource(29))}
	var sum [4]int
	refused, pruned := 0, 0
	for range 16 {
		text := c.program()
		for _, mode := range Modes() {
			o, f := Migrate(text, mode)
			want, wrong := wanted(text, mode)
			if f != wrong || !same(o, want) {
				t.Fatalf("%v: %v, %+v, not %v, %+v: %s", mode, f, o, wrong, want, text)
			}
			for i, n := range o.counts() {
				sum[i] += n
			}
			if f.Code != api.OK {
				refused++
			} else if p, _ := plan.Make(text, mode.Guards, mode.Demands); len(p.Changes()) > o.Marks+o.Guards {
				pruned++
			}
		}
	}
	if slices.Min(sum[:]) < 80 || refused < 60 || pruned < 10 {
		t.Errorf("%v, %d refused, %d pruned", sum, refused, pruned)
	}
}

// held holds what came of a text that fits and has no marks to what the document says of all such; its program.
func held(t *testing.T, text string, x *base.Info, mode Mode) *base.Info {
	t.Helper()
	o, f := Migrate(text, mode)
	if f.Code != api.OK {
		if f.Code != api.ErrGuard || mode.Guards {
			t.Fatalf("%v: %v: %s", mode, f, text)
		}
		return nil
	}
	y, f := strict.Program(o.Text)
	if y == nil {
		t.Fatalf("%v: %v: %s", mode, f, o.Text)
	}
	if got, e := edit.Apply(text, o.Edits...); e != api.OK || got != o.Text || len(o.Trace) != o.Marks+o.Guards {
		t.Fatalf("%v: %+v: %s", mode, o, text)
	}
	if o.Checks == 0 && !tree.Same(tree.Erase(y.Tree()), x.Tree()) || o.Checks > 0 && !mode.Dead || o.Options > 0 && !mode.Options || o.Guards > 0 && !mode.Guards {
		t.Fatalf("%v: %+v: %s", mode, o, text)
	}
	if o.Options+o.Checks == 0 && len(o.MarkPlaces()) != o.Marks {
		t.Fatalf("%v: %v: %s", mode, o.MarkPlaces(), text)
	}
	if r, f := infer.Solve(x, false); !mode.Guards && (f.Code != api.OK || len(r.Marked()) != o.Marks || len(r.Guards()) > 0) {
		t.Fatalf("%v: %d marks, %v: %s", mode, o.Marks, f, text)
	}
	return y
}

// done: did two runs end, and answer and print the same?
func done(a, b api.Run) bool {
	return a.End == api.Done && b.End == api.Done && a.Result == b.Result && slices.Equal(a.Out, b.Out)
}

// P29.4, P29.5: what is made is right, and runs as the program did, in every mode.
func TestRuns(t *testing.T) {
	c := &chance{Rand: rand.New(rand.NewSource(290))}
	ends, seen := map[int]int{}, map[string]int{}
	for range 24 {
		text := c.program()
		x, f := strict.Fits(text)
		if x == nil {
			t.Fatalf("%v, at %s", f, text[f.At:])
		}
		for _, mode := range Modes() {
			y := held(t, text, x, mode)
			if y == nil {
				continue
			}
			seen[tree.Form(y.Tree(), y.Tree().Root)]++
			for range 8 {
				var in []int64
				for range c.Intn(60) {
					in = append(in, int64(c.Intn(4)))
				}
				fuel := c.Intn(c.Intn(1500) + 1)
				one, other := eval.Run(x, in, fuel), eval.Run(y, in, fuel)
				ends[one.End]++
				if other.End == api.NullFault || one.End == api.Done && !done(one, eval.Run(y, in, 4*fuel+4)) || other.End == api.Done && !done(other, eval.Run(x, in, 4*fuel+4)) {
					t.Fatalf("%v, %v with %v and %d, %v: %s", one, other, in, fuel, mode, text)
				}
			}
		}
	}
	if ends[api.Done] < 200 || ends[api.NullFault] < 200 || ends[api.OutOfFuel] < 200 || len(seen) < 90 {
		t.Errorf("%v, %d programs", ends, len(seen))
	}
}

// P29.5: without guards the marks are layer 22's, where all is asked of what isn't null alone.
func TestWithout(t *testing.T) {
	c := &chance{Rand: rand.New(rand.NewSource(291))}
	made := 0
	for range 80 {
		shapes := []string{"this.f = p; ", "this.l[0] = p; ", "v = this.f; ", "v = ask(this); ", "this.h(v, this.f); ", "if (v != null) { v.n = 1; } ", "if (p == null) { return; } p.h(p, v); ", "while (p == null) { p = new A(this); } ", "A[] a# = new A[2]; a#[1] = v; ", "A b# = this; if (null == b#) { } ", "this.f.n = 4; "}
		text := "class A { int n; A f; A[] l; init(A a) { this.l = new A[1]; } void h(A p, A q) { A v = null; "
		for range c.Intn(6) {
			c.names++
			text += strings.ReplaceAll(c.pick(shapes...), "#", strconv.Itoa(c.names))
		}
		text += "} } class Main { int main() { A x = new A(null); x.f = x; x.h(x, " + c.pick("x", "null") + "); return x.n; } }"
		x, f := strict.Fits(text)
		if x == nil {
			t.Fatalf("%v, at %s", f, text[f.At:])
		}
		for _, mode := range Modes() {
			if y := held(t, text, x, mode); y != nil && !mode.Guards {
				made++
			}
		}
	}
	if made < 150 || made > 600 {
		t.Errorf("%d were made", made)
	}
}
