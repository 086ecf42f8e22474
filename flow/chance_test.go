package flow

import (
	"math/rand"
	"slices"
	"strconv"
	"strings"
	"testing"

	"caulker/api"
	"caulker/base"
	"caulker/eval"
	"caulker/parse"
	"caulker/tree"
)

// local is one that may be named.
type local struct{ name, of string }

// chance makes programs, the same ones each time.
type chance struct {
	*rand.Rand
	strict bool // whether null is only where types say so, and options hold no null
	open   []local
	names  int
	loops  int
	answer string // what its returns give
}

// sorts are the types of the locals that a letter behind a @ stands for.
var sorts = map[byte][]string{'i': {"int"}, 'b': {"bool"}, 'a': {"A?", "A"}, 'l': {"A?[]?", "A?[]"}, 'o': {"Option<A>"}}

// least are values of a sort that are made of nothing.
var least = map[byte][]string{'i': {"1", "input()"}, 'b': {"true", "(input() > 0)", "(input() > 0)"}, 'a': {"this", "this.a", "(new A())"}, 'l': {"this.l", "(new A?[4])"}, 'o': {"this.o", "some(this)"}}

// shapes are values of a sort, in brackets where that may be needed: behind a @ stands another one, of a sort (a great letter: it may be null or none itself), behind a # an option that is a local.
var shapes = map[byte][]string{
	'i': {"input()", "(@i + @i)", "@a.n", "@l.length", "@a.one(@A, @b)"},
	'b': {"(!@b)", "(!@b)", "(@b && @b)", "(@b && @b)", "(@b || @b)", "(@b || @b)", "(@b == @b)", "(@a == null)", "(null == @a)", "(@a != null)", "(null != @a)", "(@l == null)", "(null != @l)", "(@a == @a)", "(@i < @i)", "(#o is some)", "(#o is none)"},
	'a': {"(new A())", "cast<A?>(@A)", "ask(@a)", "@a!", "@a!", "@a.a", "@l[@i]", "@a.two(@L, @A)", "@o!", "#o.val", "#o.val"},
	'l': {"(new A?[4])", "@a.l", "@l!", "ask(@l)"},
	'o': {"some(@a!)", "some(this)", "@a.o"},
}

// loose are more of them, for programs that aren't strict.
var loose = map[byte][]string{'b': {"(@o == null)", "(null != @o)"}, 'a': {"cast<A>(@A)", "@a.b", "@o"}, 'l': {"@a.k"}, 'o': {"some(@a)", "@a"}}

// pick is one of some.
func (c *chance) pick(list ...string) string { return list[c.Intn(len(list))] }

// name is a local of a sort; empty, if there is none.
func (c *chance) name(sort byte) string {
	var list []string
	for _, l := range c.open {
		if slices.Contains(sorts[sort], l.of) {
			list = append(list, l.name)
		}
	}
	if len(list) == 0 {
		return ""
	}
	return c.pick(list...)
}

// value is a value of a sort.
func (c *chance) value(sort byte, deep int) string {
	if name := c.name(sort); name != "" && (deep <= 0 || c.Intn(2) == 0) && c.Intn(8) > 0 {
		return name
	}
	list := shapes[sort]
	switch {
	case deep <= 0:
		list = least[sort]
	case !c.strict && c.Intn(6) == 0 && len(loose[sort]) > 0:
		list = loose[sort]
	}
	return c.made(c.pick(list...), deep-1)
}

// made is what a shape is, with values in it.
func (c *chance) made(shape string, deep int) string {
	if name := c.name('o'); strings.Contains(shape, "#o") {
		if name == "" {
			return c.pick(least[map[bool]byte{true: 'a', false: 'b'}[strings.Contains(shape, "val")]]...)
		}
		shape = strings.Replace(shape, "#o", name, 1)
	}
	text := ""
	for {
		ahead, behind, more := strings.Cut(shape, "@")
		text += ahead
		if !more {
			return text
		}
		if letter := behind[0]; letter >= 'a' {
			text += c.value(letter, deep)
		} else {
			text += c.given(letter+'a'-'A', deep)
		}
		shape = behind[1:]
	}
}

// given is a value that comes to a type: it may be null or none itself.
func (c *chance) given(sort byte, deep int) string {
	switch {
	case strings.Contains("al", string(sort)) && c.Intn(6) == 0:
		return "null"
	case sort == 'o' && c.Intn(3) == 0:
		return "none"
	}
	return c.value(sort, deep)
}

// block is a block of statements.
func (c *chance) block(deep, most int) string {
	outside := slices.Clip(c.open)
	text := "{ "
	for range c.Intn(most) {
		text += c.stat(deep)
	}
	c.open = outside
	return text + "} "
}

// stat is a statement.
func (c *chance) stat(deep int) string {
	sort := c.pick("a", "a", "a", "l", "o", "i", "b")[0]
	switch k := c.Intn(16); {
	case k < 2 && c.names < 4:
		c.names++
		l := local{"v" + strconv.Itoa(c.names), sorts[sort][0]}
		if !c.strict {
			l.of = c.pick(sorts[sort]...)
		}
		text := l.of + " " + l.name
		if c.Intn(3) > 0 {
			text += " = " + c.given(sort, 2)
		}
		c.open = append(c.open, l)
		return text + "; "
	case k < 6:
		if name := c.name(sort); name != "" {
			return name + " = " + c.given(sort, 2) + "; "
		}
	case k == 6:
		return c.made(c.pick("@a.a = @A; ", "@a.n = @i; ", "@a.l[@i] = @A; ", "@l[@i] = @A; ", "@a.o = @O; "), 1)
	case k < 10:
		return c.made(c.pick("print(@i); ", "print(@b); ", "@a.one(@A, @b); ", "print(@a.n); ", "print(@l.length); "), 1)
	case k == 10 && c.loops > 0:
		return c.pick("break; ", "continue; ")
	case k == 11 && c.Intn(3) == 0:
		return c.back()
	case k < 14 && deep > 0:
		text := "if (" + c.value('b', 3) + ") " + c.block(deep-1, 5)
		if c.Intn(2) == 0 {
			text += "else " + c.block(deep-1, 4)
		}
		return text
	case k >= 14 && deep > 0:
		c.loops++
		text := "while (" + c.value('b', 3) + ") " + c.block(deep-1, 6)
		c.loops--
		return text
	}
	return ""
}

// back is a return.
func (c *chance) back() string {
	if c.answer == "" {
		return "return; "
	}
	return "return " + c.given(c.answer[0], 1) + "; "
}

// body is a body of a method that answers a value of a sort, with its parameters.
func (c *chance) body(answer string, params ...string) string {
	c.open, c.names, c.loops, c.answer = nil, 0, 0, answer
	text := "("
	for i, of := range params {
		if i > 0 {
			text += ", "
		}
		if !c.strict {
			of = c.pick(of, strings.TrimSuffix(of, "?"))
		}
		l := local{"p" + strconv.Itoa(i), of}
		text += l.of + " " + l.name
		c.open = append(c.open, l)
	}
	text += ") { " + c.block(3, 10)
	if answer != "" {
		text += c.back()
	}
	return text + "} "
}

// program is a whole one.
func (c *chance) program() string {
	text := "class A { int n; A? a; A b; A?[]? l; A?[] k; Option<A> o; init() { this.a = this; this.l = new A?[8]; this.l[0] = ask(this); this.l[1] = this; if (input() > 0) { this.o = some(this); } } int one(A? x, bool b) { return 1; } A? two(A?[]? l, A? x) { return x; } "
	text += "int f" + c.body("i", "A?", "bool") + "A? g" + c.body("a", "A?[]?") + "void h" + c.body("", "Option<A>", "A?", "A?[]?", "int") + "} "
	text += "class B extends A { init" + strings.Replace(c.body("", "A?", "bool"), "{", "{ super(); ", 1) + "} "
	calls := []string{"x.f(null, true); ", "x.f(x.a, false); ", "x.g(x.l); ", "x.g(null); ", "x.h(x.o, x, null, 1); ", "x.h(none, null, x.l, 2); ", "new B(null, true); ", "x = new B(x, false); "}
	c.Shuffle(len(calls), func(i, k int) { calls[i], calls[k] = calls[k], calls[i] })
	return text + "class Main { int main() { A x = new A(); " + strings.Join(calls[:1+c.Intn(3)], "") + "return 1; } } "
}

// P18.2 to P18.4: in programs of all kinds, what is known is as the document tells.
func TestModel(t *testing.T) {
	c := &chance{Rand: rand.New(rand.NewSource(18))}
	sure := 0
	for range 1000 {
		sure += hold(t, known(t, c.program()))
	}
	if sure < 5000 {
		t.Errorf("but %d names are known not to be null", sure)
	}
}

// told is a program's text, in which each name that is known not to be null is guarded, and each one to which no way leads is a fault: how many they are.
func told(x *base.Info, text string, asks bool) (string, int) {
	parent := map[int]int{}
	for node := range x.Len() {
		for _, kid := range x.Node(node).Kids {
			parent[kid] = x.Node(node).Kind
		}
	}
	var facts []*Facts
	for body := range x.Bodies() {
		facts = append(facts, Solve(x, body, asks))
	}
	made := 0
	for node := x.Len() - 1; node >= 0; node-- {
		n, of := x.Node(node), x.Type(node)
		if n.Kind != api.Var || !strings.Contains("?o", string(of.Marks[of.Dims])) {
			continue
		}
		f := facts[x.Within(node)]
		option := of.Marks[of.Dims] == api.Optional
		bare := slices.Contains([]int{api.IsSome, api.IsNone, api.Val}, parent[node])
		instead := n.Text
		switch {
		case !f.Holds(node):
		case option && f.Reached(node) && !bare:
			instead = "(some(" + n.Text + ".val))"
		case option:
		case f.Reached(node):
			instead = "(" + n.Text + "!)"
		case parent[node] != api.Assign || assigned(x, node) != node:
			instead = "(cast<" + tree.TypeText(of) + ">(null)!)"
		}
		if instead != n.Text {
			made++
			text = text[:n.From] + instead + text[n.To:]
		}
	}
	return text, made
}

// assigned is the node to which the assignment that a node stands in assigns.
func assigned(x *base.Info, node int) int {
	for i := range x.Len() {
		if n := x.Node(i); n.Kind == api.Assign && slices.Contains(n.Kids, node) {
			return n.Kids[0]
		}
	}
	return -1
}

// P18.2, P18.3: what is known so never is null, however a program runs, if null is only where types say so.
func TestRuns(t *testing.T) {
	c := &chance{Rand: rand.New(rand.NewSource(81)), strict: true}
	made, ends := 0, map[int]int{}
	for range 400 {
		text := c.program()
		x := known(t, text)
		for _, asks := range []bool{false, true} {
			other, more := told(x, text, asks)
			made += more
			y := known(t, other)
			for range 4 {
				var in []int64
				for range c.Intn(30) {
					in = append(in, int64(c.Intn(4)))
				}
				a := eval.Run(x, in, 2000)
				ends[a.End]++
				if a.End == api.OutOfFuel {
					continue
				}
				b := eval.Run(y, in, 20000)
				if a.End != b.End || a.Why != b.Why || a.Result != b.Result || !slices.Equal(a.Out, b.Out) {
					t.Fatalf("%v, and not %v, of %s, which was %s", b, a, other, text)
				}
			}
		}
	}
	if made < 5000 || ends[api.Done] < 300 || ends[api.NullFault] < 500 || ends[api.GuardFault] < 100 {
		t.Errorf("%d names, %v", made, ends)
	}
}

// P18.2: whatever numbers a program's nodes have.
func TestMixed(t *testing.T) {
	c := &chance{Rand: rand.New(rand.NewSource(19))}
	for range 200 {
		p, f := parse.Parse(c.program())
		if f != (api.Fault{}) {
			t.Fatal(f)
		}
		x, _ := base.Of(c.mixed(p))
		if x == nil {
			t.Fatal("mixed")
		}
		hold(t, x)
	}
}

// mixed is a program whose nodes have other numbers, each still behind those that it is made of.
func (c *chance) mixed(p api.Tree) api.Tree {
	var nodes []api.Node
	var grow func(at int) int
	grow = func(at int) int {
		n := p.Nodes[at]
		kids := slices.Clone(n.Kids)
		for _, i := range c.Perm(len(kids)) {
			kids[i] = grow(n.Kids[i])
		}
		n.Kids = kids
		nodes = append(nodes, n)
		return len(nodes) - 1
	}
	return api.Tree{Root: grow(p.Root), Nodes: nodes}
}
