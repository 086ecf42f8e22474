package option

import (
	"math/rand"
	"slices"
	"strconv"
	"strings"
	"testing"

	"caulker/api"
	"caulker/base"
	"caulker/eval"
	"caulker/kind"
	"caulker/parse"
	"caulker/plan"
	"caulker/strict"
	"caulker/tree"
)

// chance makes programs without marks, the same ones each time, in which locals are often null, and held against it.
type chance struct {
	*rand.Rand
	class  string
	open   []string // locals that may be named
	sure   []string // such as were held against null around
	names  int
	loops  int
	answer string // what its returns give; empty: nothing
}

// pick is one of some.
func (c *chance) pick(list ...string) string { return list[c.Intn(len(list))] }

// name is a local; mostly one that isn't null, if that is wanted.
func (c *chance) name(sure bool) string {
	switch {
	case sure && len(c.sure) > 0 && c.Intn(12) > 0:
		return c.pick(c.sure...)
	case len(c.open) == 0 || sure && c.Intn(4) > 0:
		return c.pick("this", "new A()", "new B(new A())")
	}
	return c.pick(c.open...)
}

// value is a value of the type A.
func (c *chance) value(deep int) string {
	shape := c.pick("null", "null", "null", "new A()", "new A()", "new B(@)", "#.me()", "#.me()", "#.f", "#", "#", "(#)", "?", "cast<A>(#)", "(#).g(@, @)", "ask(#)", "this", "#.me().me()", "((#).me())")
	if deep <= 0 {
		shape = c.pick("null", "new A()", "#", "this")
	}
	return c.made(shape, deep-1)
}

// test is a condition.
func (c *chance) test(deep int) string {
	shape := c.pick("? == null", "? != null", "? != null", "(?) == null", "null == ?", "null != (?)", "(input() > 0)", "(input() > 1)", "! && !", "! || !", "#.ok(@, !)", "#.n > 0", "#.me() == #", "true", "(! == !)")
	if deep <= 0 {
		shape = c.pick("? == null", "? != null", "(input() > 0)")
	}
	return c.made(shape, deep-1)
}

// made is what a shape is: @ is a value, # a local that is mostly not null, ? any local, ! a condition, ~ a number.
func (c *chance) made(shape string, deep int) string {
	text := ""
	for i, b := range []byte(shape) {
		switch {
		case b == '@':
			text += c.value(deep)
		case b == '#':
			text += c.name(true)
		case b == '?':
			if text += c.pick(append([]string{"new A()"}, c.open...)...); strings.HasSuffix(shape, "= null; } ") {
				return text
			}
		case b == '~':
			text += c.pick("1", "input()", "(input() + 1)")
		case b == '!' && !strings.HasPrefix(shape[i:], "!="):
			text += c.pick("", "!") + "(" + c.test(deep) + ")"
		default:
			text += string(b)
		}
	}
	return text
}

// block is a block of statements; in it a local isn't null, if there is one.
func (c *chance) block(deep, most int, sure ...string) string {
	open, known := slices.Clip(c.open), slices.Clip(c.sure)
	c.sure = append(known, sure...)
	text := "{ "
	for range c.Intn(most) {
		text += c.stat(deep)
	}
	c.open, c.sure = open, known
	return text + "} "
}

// stat is a statement.
func (c *chance) stat(deep int) string {
	local := "this"
	if len(c.open) > 0 {
		local = c.pick(c.open...)
	}
	switch k := c.Intn(20); {
	case k < 4 && c.names < 6:
		c.names++
		name := "v" + strconv.Itoa(c.names)
		text := "A " + name + " = " + c.value(1) + "; "
		c.open = append(c.open, name)
		return text
	case k < 8 && local != "this":
		return local + " = " + c.value(2) + "; "
	case k < 12:
		return c.made(c.pick("print(#.n); ", "#.n = ~; ", "#.f = @; ", "#.g(@, #); ", "print(#.ok(@, !)); ", "print(!); ", "(#).me().n = #.n + ~; ", "#.me(); "), 1)
	case k == 12 && c.loops > 0:
		return c.pick("break; ", "continue; ")
	case k == 13 && c.Intn(3) == 0:
		return c.back()
	case k < 17 && deep > 0 && local != "this":
		return c.held(deep, local)
	case k == 17 && deep > 0:
		return "if (" + c.test(2) + ") " + c.block(deep-1, 4) + "else " + c.block(deep-1, 4)
	case k > 17 && deep > 0:
		return c.loop(deep, "while (("+c.test(2)+")"+c.pick("", " && input() > 0", " && input() > 0", " && input() > 0")+") ")
	}
	return ""
}

// held is a statement in which a local is held against null.
func (c *chance) held(deep int, local string) string {
	switch c.Intn(7) {
	case 0:
		return "if (" + local + " == null) { " + local + " = " + c.pick("new A()", "this", "this.me()") + "; } print(" + local + ".n); "
	case 1:
		return "if (" + local + " == null) " + c.block(deep-1, 3) + "else " + c.block(deep-1, 4, local)
	case 2:
		return "if ((" + local + ") == null || " + local + ".n > " + c.made("~", 0) + ") " + c.block(deep-1, 4)
	case 3:
		return c.loop(deep, "while ("+local+" == null && input() > 0) ")
	case 4:
		return c.loop(deep, "while ("+local+" != null && "+local+".n < 3 && input() > 0) ", local)
	}
	return "if (" + local + " != null) " + c.block(deep-1, 5, local)
}

// loop is a while.
func (c *chance) loop(deep int, begin string, sure ...string) string {
	c.loops++
	defer func() { c.loops-- }()
	return begin + c.block(deep-1, 5, sure...)
}

// back is a return.
func (c *chance) back() string {
	switch c.answer {
	case "A":
		return "return " + c.value(1) + "; "
	case "":
		return "return; "
	}
	return "return " + c.answer + "; "
}

// body is a method's parameters and its block.
func (c *chance) body(answer string, begin string, params ...string) string {
	c.open, c.sure, c.names, c.loops, c.answer = slices.Clone(params), nil, 0, 0, answer
	text := "("
	for i, p := range params {
		text += ", "[:2*min(1, i)] + "A " + p
	}
	for _, name := range []string{"u", "x", "y", "z"} {
		if strings.Contains(begin, "A "+name+" = ") {
			c.open = append(c.open, name)
		}
	}
	text += ") { " + begin + c.block(2, 8)
	if answer != "" {
		text += c.back()
	}
	return text + "} "
}

// program is a whole one.
func (c *chance) program() string {
	text := "class A { int n; A f; A me() { return this; } A g" + c.body("A", "", "p", "q") + "bool ok(A p, bool b" + strings.TrimPrefix(c.body("b", ""), "(")
	text += "void w" + c.body("", "A u = null; ", "p") + "} "
	text += "class B extends A { A s; init" + c.body("", c.pick("this.s = p; ", ""), "p") + "A g" + c.body("A", "A u = null; ", "r", "s") + "} "
	return text + "class Main extends A { int main" + c.body("this.n", "A x = new A(); A y = new B(x); x.f = y; x.n = input(); if (input() > 0) { y.w(x); } if (input() > 0) { x.w(null); } if (input() > 0) { y = x.g(y, x); } if (input() > 0) { y = new B(x); x = y.g(x, null); } A z = null; ") + "}"
}

// right is a program with which nothing is wrong, and the one without marks of which it was made.
func (c *chance) right(t *testing.T) (string, *base.Info) {
	t.Helper()
	text := c.program()
	p, f := plan.Make(text, true, c.Intn(2) == 0)
	if p == nil {
		t.Fatalf("%v, at %s", f, text[f.At:])
	}
	made, e := p.Text()
	if e != api.OK {
		t.Fatal(e)
	}
	return made, fits(t, text)
}

// P25.1 to P25.3: of right programs all is as the document tells; that they run as they did, as P25.4 tells.
func TestRight(t *testing.T) {
	c := &chance{Rand: rand.New(rand.NewSource(25))}
	options, runs, ends := 0, 0, map[int]int{}
	for range 100 {
		text, legacy := c.right(t)
		x := fits(t, text)
		for body := range x.Bodies() {
			hold(t, x, body)
		}
		n, made := holdWrap(t, text)
		options += n
		y, f := strict.Program(made)
		if y == nil {
			t.Fatal(f)
		}
		if got := strings.Count(made, "Option<"); got != n || !tree.Same(tree.Erase(y.Tree()), legacy.Tree()) {
			t.Fatalf("%d, not %d options: %s", got, n, made)
		}
		for range 40 {
			var in []int64
			for range c.Intn(60) {
				in = append(in, int64(c.Intn(4)))
			}
			fuel := c.Intn(c.Intn(4000) + 1)
			one, other := eval.Run(x, in, fuel), eval.Run(y, in, fuel)
			ends[one.End]++
			if one.End == api.Done && n > 0 {
				runs++
			}
			if other.End == api.NullFault || one.End == api.Done && !alike(one, eval.Run(y, in, 4*fuel+4)) || other.End == api.Done && !alike(other, eval.Run(x, in, 4*fuel+4)) || one.End == api.GuardFault && other.End == api.Done {
				t.Fatalf("%v, %v with %v and %d: %s", one, other, in, fuel, made)
			}
		}
	}
	if options < 250 || runs < 300 || ends[api.GuardFault] < 300 || ends[api.OutOfFuel] < 100 {
		t.Errorf("%d options, %d runs, %v", options, runs, ends)
	}
}

// alike: did two runs end, and answer and print the same?
func alike(a, b api.Run) bool {
	return a.End == api.Done && b.End == api.Done && a.Result == b.Result && slices.Equal(a.Out, b.Out)
}

// wild is a text in which marks, guards and options were put in, and some taken out, at chance.
func (c *chance) wild(t *testing.T, text string) string {
	t.Helper()
	x := fits(t, text)
	type piece struct {
		at   int
		text string
	}
	var list []piece
	for node := range x.Len() {
		n := x.Node(node)
		switch {
		case n.Kind == api.Decl || n.Kind == api.Param || n.Kind == api.Field || n.Kind == api.Method || n.Kind == api.Cast:
			if kind.Ref(n.Type) && c.Intn(2) == 0 {
				list = append(list, piece{n.Ends[n.Type.Dims], "?"})
			} else if kind.Ref(n.Type) && c.Intn(20) == 0 {
				list = append(list, piece{n.Where.From, "Option<"}, piece{n.Where.To, ">"})
			}
		case n.Kind == api.Var && kind.Ref(x.Type(node)) && c.Intn(30) == 0:
			list = append(list, piece{n.To, c.pick("!", ".val")})
		case tree.Value(n.Kind) && kind.Ref(x.Type(node)) && !kind.Is(x.Type(node), api.Null) && c.Intn(40) == 0:
			list = append(list, piece{n.From, c.pick("some(", "ask(", "cast<A?>(", "cast<Option<A>>(")}, piece{n.To, ")"})
		}
	}
	slices.SortStableFunc(list, func(a, b piece) int { return a.at - b.at })
	for _, p := range slices.Backward(list) {
		text = text[:p.at] + p.text + text[p.at:]
	}
	return text
}

// P25.1, P25.2: of programs that fit, whatever is wrong with them, all is as the document tells; whatever numbers their nodes have.
func TestWild(t *testing.T) {
	c := &chance{Rand: rand.New(rand.NewSource(251))}
	programs, closed := 0, 0
	for range 400 {
		text := c.wild(t, c.program())
		x, f := strict.Fits(text)
		if x == nil {
			if f.Code == api.ErrToken {
				t.Fatalf("%v, at %s", f, text[f.At:])
			}
			continue
		}
		programs++
		p, _ := parse.Parse(text)
		y, f := base.Of(c.mixed(p))
		if y == nil {
			t.Fatal(f)
		}
		for body := range x.Bodies() {
			closed += len(hold(t, x, body))
			hold(t, y, body)
		}
	}
	if programs < 150 || closed < 300 {
		t.Errorf("%d programs, %d locals", programs, closed)
	}
}

// mixed is a program whose nodes have other numbers, each still behind those that it is made of.
func (c *chance) mixed(p api.Tree) api.Tree {
	var nodes []api.Node
	var grow func(at int) int
	grow = func(at int) int {
		n := p.Nodes[at]
		kids := slices.Clone(n.Kids)
		for _, i := range c.Perm(len(kids)) {
			kids[i] = grow(n.Kids[i])
		}
		n.Kids = kids
		nodes = append(nodes, n)
		return len(nodes) - 1
	}
	return api.Tree{Root: grow(p.Root), Nodes: nodes}
}
