package prune

import (
	"math/rand"
	"slices"
	"strings"
	"testing"

	"caulker/plan"
	"caulker/strict"
)

// chance makes programs without marks, and changes, the same ones each time.
type chance struct{ *rand.Rand }

// pick is one of some.
func (c *chance) pick(list ...string) string { return list[c.Intn(len(list))] }

// value is one of an A that may be null, in brackets where that may be needed.
func (c *chance) value(deep int) string {
	if deep == 0 {
		return c.pick("this", "p", "v", "this.f", "this.s", "(p)")
	}
	inner := c.value(deep - 1)
	return c.pick("this", "p", "v", "cast<A>(null)", inner+".f", inner+".l[0]", inner+".g("+c.value(deep-1)+", this.l)", "ask("+inner+")", "cast<A>("+inner+")", "new A("+inner+")", "q["+inner+".n]")
}

// stat is a statement.
func (c *chance) stat(deep int) string {
	if deep == 0 {
		return c.pick("v = ", "p = ", "this.f = ", "this.s = ", "this.l[1] = ", "q[0] = ") + c.pick("null", c.value(2), c.value(2), c.value(2)) + "; "
	}
	switch c.Intn(6) {
	case 0:
		return "if (" + c.pick("p", "v", c.value(1)) + c.pick(" != ", " == ") + "null) { " + c.stat(deep-1) + c.pick("", c.stat(deep-1), "return p; ") + "} "
	case 1:
		return "while (" + c.pick("p", "v") + c.pick(" != ", " == ") + "null) { " + c.stat(deep-1) + c.pick("", "break; ", "v = this; ") + "} "
	case 2:
		return c.pick("q = ", "this.l = ") + c.pick("q", "this.l", "new A[2]", "null", "ask(q)") + "; "
	case 3:
		return "print(" + c.value(1) + ".n); " + c.pick("", "v.n = q.length; ")
	}
	return c.stat(0)
}

// body is a method's, with so many statements at most.
func (c *chance) body(most int) string {
	text := "(A p, A[] q) { A v = " + c.pick("p", "this", "null", "this.f") + "; "
	for range c.Intn(most) {
		text += c.stat(c.Intn(3))
	}
	return text + "return " + c.value(1) + "; } "
}

// program is a whole one, with a line end here and there.
func (c *chance) program() string {
	text := main + "class A { int n; A f; A s; A[] l; init(A p) { this.s = " + c.pick("this", "p") + "; this.l = new A[3]; } A g" + c.body(5)
	text += "A h" + c.body(4) + "} class B extends A { init() { super(" + c.pick("null", "this", "ask(this)") + "); } A g" + c.body(3) + "}"
	return strings.ReplaceAll(text, "; } ", c.pick("; } ", ";\n} "))
}

// more is changes of a plan, and some that aren't of it.
func (c *chance) more(text string, list []plan.Change) []plan.Change {
	for range c.Intn(6) {
		at := strings.LastIndexAny(text[:c.Intn(len(text)-9)+9], " ;") + 1
		more := put(at, at, c.pick(" ", "  ", "\n", "\t"), plan.Dead)
		switch c.Intn(6) {
		case 0:
			if at = strings.LastIndex(text[:at], " A v"); at >= 0 {
				more = put(at+2, at+2, "?", plan.Mark)
			}
		case 1:
			if at = strings.LastIndex(text[:at], "this.s"); at >= 0 {
				more = put(at+5, at+5, c.pick(" ", "\n"), plan.Wrapped)
			}
		case 2, 3:
			if again := list[c.Intn(len(list))]; again.Text == "!" || c.Intn(9) == 0 {
				more = again
			}
		}
		list = append(list, more)
	}
	plan.Sort(list)
	return list
}

// fits: is nothing wrong with a text behind those of some changes that are still there?
func fits(t *testing.T, text string, list []plan.Change, gone map[int]int) bool {
	t.Helper()
	made, at := "", 0
	for k, c := range list {
		if _, is := gone[k]; is {
			continue
		}
		if c.From < at || c.From > c.To || c.To > len(text) {
			return false
		}
		made += text[at:c.From] + c.Text
		at = c.To
	}
	x, _ := strict.Program(made + text[at:])
	return x != nil
}

// with is what is gone, and one more.
func with(gone map[int]int, k int) map[int]int {
	all := map[int]int{k: k}
	for k := range gone {
		all[k] = k
	}
	return all
}

// hold holds what is told of changes to the document; how many are left out.
func hold(t *testing.T, text string, list []plan.Change) int {
	t.Helper()
	var idle []int
	for k := range list {
		if fits(t, text, list, with(nil, k)) {
			idle = append(idle, k)
		}
	}
	if got := Idle(text, list); !slices.Equal(got, idle) {
		t.Fatalf("%v are idle, not %v, of %v: %s", got, idle, list, text)
	}
	gone := map[int]int{}
	for again := fits(t, text, list, gone); again; {
		again = false
		for k := range list {
			if _, is := gone[k]; !is && fits(t, text, list, with(gone, k)) {
				gone, again = with(gone, k), true
			}
		}
	}
	var want []plan.Change
	for k, c := range list {
		if _, is := gone[k]; !is {
			want = append(want, c)
		}
	}
	left, n := Prune(text, list)
	if !slices.Equal(left, want) || n != len(gone) {
		t.Fatalf("%v are left, not %v, of %v: %s", left, want, list, text)
	}
	return n
}

// P27.1 to P27.3: of plans' changes, and some more, those are left that the document tells.
func TestModel(t *testing.T) {
	c := &chance{rand.New(rand.NewSource(27))}
	out, wrong := 0, 0
	for i := range 60 {
		text := c.program()
		p, f := plan.Make(text, true, i%2 == 0)
		if p == nil {
			t.Fatalf("%v: %s", f, text)
		}
		if n := hold(t, text, p.Changes()); n > 0 {
			t.Errorf("%d of a plan's changes are left out: %s", n, text)
		}
		list := c.more(text, p.Changes())
		if _, ok := plan.Program(text, list); !ok {
			wrong++
		}
		out += hold(t, text, list)
	}
	if out < 60 || wrong < 5 {
		t.Errorf("%d are left out, %d times something is wrong", out, wrong)
	}
}
