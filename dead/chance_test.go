package dead

import (
	"math/rand"
	"slices"
	"strconv"
	"strings"
	"testing"

	"caulker/api"
	"caulker/base"
	"caulker/eval"
	"caulker/parse"
	"caulker/plan"
	"caulker/strict"
)

// chance makes programs without marks, the same ones each time, in which locals are often held against null.
type chance struct {
	*rand.Rand
	open   []string // locals that may be named
	names  int
	loops  int
	answer string // what its returns give; empty: nothing
}

// pick is one of some.
func (c *chance) pick(list ...string) string { return list[c.Intn(len(list))] }

// made is what a shape is: @ is a value, # a local, ! a condition, ~ a number.
func (c *chance) made(shape string, deep int) string {
	text := ""
	for i, b := range []byte(shape) {
		switch {
		case b == '@':
			text += c.value(deep)
		case b == '#':
			text += c.pick(append([]string{"this"}, c.open...)...)
		case b == '~':
			text += c.pick("1", "input()", "(input() + 1)", "2")
		case b == '!' && !strings.HasPrefix(shape[i:], "!="):
			text += c.pick("", "!") + "(" + c.test(deep) + ")"
		default:
			text += string(b)
		}
	}
	return text
}

// value is a value of the type A.
func (c *chance) value(deep int) string {
	shape := c.pick("null", "new A()", "#.me()", "#", "#", "(#)", "#.f", "(#).g(@, @)", "ask(#)", "this")
	if deep <= 0 {
		shape = c.pick("new A()", "#", "this")
	}
	return c.made(shape, deep-1)
}

// test is a condition; at its beginning stands one local, or a null, mostly.
func (c *chance) test(deep int) string {
	local := "this"
	if len(c.open) > 0 {
		local = c.pick(c.open...)
	}
	shape := c.pick("? == null", "? != null", "(?) == null", "((?)) != (null)", "null == ?", "null != (?)", "(null)!=?", "?==null", "! && !", "! || !", "(! == !)", "#.ok(@, !)", "#.n > ~", "(input() > 0)", "(input() > 1)")
	if deep <= 0 {
		shape = c.pick("? == null", "null != ?", "(input() > 0)")
	}
	return c.made(strings.ReplaceAll(shape, "?", local), deep-1)
}

// block is a block of statements.
func (c *chance) block(deep, most int) string {
	open := slices.Clip(c.open)
	text := "{ "
	for range c.Intn(most) {
		text += c.stat(deep)
	}
	c.open = open
	return text + "} "
}

// stat is a statement.
func (c *chance) stat(deep int) string {
	switch k := c.Intn(16); {
	case k < 3 && c.names < 6:
		c.names++
		name := "v" + strconv.Itoa(c.names)
		text := "A " + name + " = " + c.value(1) + "; "
		c.open = append(c.open, name)
		return text
	case k < 5 && len(c.open) > 0:
		return c.pick(c.open...) + " = " + c.value(1) + "; "
	case k < 10:
		return c.made(c.pick("print(#.n); ", "#.n = ~; ", "#.f = @; ", "#.g(@, #); ", "print(#.ok(@, !)); ", "print(!); ", "print(!); ", "#.me(); "), 1)
	case k == 10 && c.loops > 0:
		return c.pick("break; ", "continue; ")
	case k == 11 && c.Intn(3) == 0 && c.answer != "":
		return "return " + c.answer + "; "
	case k < 14 && deep > 0:
		return "if (" + c.test(2) + ") " + c.block(deep-1, 4) + "else " + c.block(deep-1, 4)
	case k >= 14 && deep > 0:
		c.loops++
		defer func() { c.loops-- }()
		return "while ((" + c.test(2) + ") && input() > 0) " + c.block(deep-1, 5)
	}
	return ""
}

// body is a method's parameters and its block.
func (c *chance) body(answer string, begin string, params ...string) string {
	c.open, c.names, c.loops, c.answer = slices.Clone(params), 0, 0, answer
	text := "("
	for i, p := range params {
		text += ", "[:2*min(1, i)] + "A " + p
	}
	if begin != "" {
		c.open = append(c.open, "x", "y")
	}
	text += ") { " + begin + c.block(2, 8)
	if answer != "" {
		text += "return " + answer + "; "
	}
	return text + "} "
}

// program is a whole one.
func (c *chance) program() string {
	text := "class A { int n; A f; A me() { return this; } A g" + c.body("this", "", "p", "q") + "bool ok(A p, bool b" + strings.TrimPrefix(c.body("b", ""), "(") + "} "
	text += "class B extends A { init() { } A g" + c.body("this", "", "r", "s") + "} "
	return text + "class Main extends A { int main" + c.body("this.n", "A x = new A(); A y = new B(); x.f = y; x.n = input(); if (input() > 0) { x.g(y, this); } if (input() > 0) { y.g(this, null); } ") + "}"
}

// right is a program with which nothing is wrong, with the marks and guards that one made at chance needs.
func (c *chance) right(t *testing.T) string {
	t.Helper()
	text := c.program()
	p, f := plan.Make(text, true, c.Intn(2) == 0)
	if p == nil {
		t.Fatalf("%v, at %s", f, text[f.At:])
	}
	made, e := p.Text()
	if e != api.OK {
		t.Fatal(e)
	}
	return made
}

// P26.1 to P26.4: of right programs all is as the document tells, and they run as they did, in no more steps.
func TestRight(t *testing.T) {
	c := &chance{Rand: rand.New(rand.NewSource(26))}
	checks, left, fewer, ends := 0, 0, 0, map[int]int{}
	for range 150 {
		text := c.right(t)
		made, n := hold(t, text)
		checks += n
		left += strings.Count(made, "= null") + strings.Count(made, "null =")
		x, y := fits(t, text), fits(t, made)
		if _, f := strict.Program(made); f.Code != api.OK {
			t.Fatal(f)
		}
		for range 30 {
			var in []int64
			for range c.Intn(60) {
				in = append(in, int64(c.Intn(4)))
			}
			fuel := c.Intn(c.Intn(4000) + 1)
			one, other := eval.Run(x, in, fuel), eval.Run(y, in, fuel)
			ends[one.End]++
			if one.Steps > other.Steps {
				fewer++
			}
			same := one.End == other.End && one.Why == other.Why && one.Result == other.Result && slices.Equal(one.Out, other.Out) && one.Steps >= other.Steps
			if one.End != api.OutOfFuel && !same || other.End == api.NullFault || other.End == api.Done && !ends4(one, other, x, in, fuel) {
				t.Fatalf("%v, %v with %v and %d: %s", one, other, in, fuel, made)
			}
		}
	}
	if checks < 300 || left < 300 || fewer < 300 || ends[api.Done] < 300 || ends[api.GuardFault] < 300 {
		t.Errorf("%d checks, %d left, %d runs with fewer steps, %v", checks, left, fewer, ends)
	}
}

// ends4: does a program end with four times as much fuel, and four, as the other one did?
func ends4(one, other api.Run, x *base.Info, in []int64, fuel int) bool {
	if one.End == api.OutOfFuel {
		one = eval.Run(x, in, 4*fuel+4)
	}
	return one.End == api.Done && one.Result == other.Result && slices.Equal(one.Out, other.Out)
}

// P26.1, P26.2: of programs that fit, whatever is wrong with them, all is as the document tells; whatever numbers their nodes have.
func TestWild(t *testing.T) {
	c := &chance{Rand: rand.New(rand.NewSource(261))}
	checks := 0
	for range 100 {
		text := c.program()
		for _, name := range []string{"p", "q", "r", "v1", "v2", "x"} {
			text = strings.ReplaceAll(text, "A "+name, c.pick("A ", "A? ", "A ? ", "Option<A> ")+name)
		}
		p, f := parse.Parse(text)
		if f.Code != api.OK {
			t.Fatal(f)
		}
		x, f := base.Of(p)
		if x == nil {
			t.Fatal(f)
		}
		y, f := base.Of(c.mixed(p))
		if y == nil {
			t.Fatal(f)
		}
		checks += holdFound(t, x)
		holdFound(t, y)
	}
	if checks < 300 {
		t.Errorf("%d checks", checks)
	}
}

// mixed is a program whose nodes have other numbers, each still behind those that it is made of.
func (c *chance) mixed(p api.Tree) api.Tree {
	var nodes []api.Node
	var grow func(at int) int
	grow = func(at int) int {
		n := p.Nodes[at]
		kids := slices.Clone(n.Kids)
		for _, i := range c.Perm(len(kids)) {
			kids[i] = grow(n.Kids[i])
		}
		n.Kids = kids
		nodes = append(nodes, n)
		return len(nodes) - 1
	}
	return api.Tree{Root: grow(p.Root), Nodes: nodes}
}
