package strict

import (
	"math/rand"
	"slices"
	"strconv"
	"strings"
	"testing"

	"caulker/api"
	"caulker/base"
	"caulker/eval"
	"caulker/kind"
	"caulker/parse"
)

// chance makes programs without marks, the same ones each time.
type chance struct {
	*rand.Rand
	wild   bool // whether options stand where none may, and others where they must
	begins bool // whether an init is made, in which new objects would begin others without end
	class  string
	open   []local
	names  int
	loops  int
	answer byte // the sort of what its returns give
}

// local is one that may be named, and its sort.
type local struct {
	name string
	sort byte
}

// types are those that the sorts have.
var types = map[byte]string{'i': "int", 'b': "bool", 'a': "A", 'c': "B", 'l': "A[]", 'w': "A[][]", 'o': "Option<A>"}

// least are values of a sort that are made of nothing.
var least = map[byte][]string{'i': {"0", "1", "input()"}, 'b': {"true", "(input() > 0)", "(input() > 1)"}, 'a': {"null", "cast<A>(null)", "new B()"}, 'c': {"null", "cast<B>(null)", "new B()"}, 'l': {"null", "new A[2]"}, 'w': {"null", "new A[][2]"}, 'o': {"none"}}

// shapes are values of a sort, in brackets where that may be needed: behind a @ stands another one, of a sort.
var shapes = map[byte][]string{
	'i': {"input()", "(@i + @i)", "@a.n", "@a.n", "@l.length", "@a.f(@a, @i)", "@l[@i].n"},
	'b': {"(!@b)", "(@b && @b)", "(@b && @b)", "(@b || @b)", "(@a == null)", "(null != @a)", "(@a != null)", "(@c != null)", "(@l == null)", "(@l != null)", "(@a == @a)", "(@i < @i)"},
	'a': {"@a.a", "@a.a", "@a.s", "@c.c", "@l[@i]", "@l[@i]", "@w[@i][@i]", "@a.g(@a, @l)", "@c.g(@a, @l)", "cast<A>(@a)", "ask(@a)", "@c", "new A(@a, @i)"},
	'c': {"@a.b", "@a.b", "@c.e(@c)", "ask(@c)", "new B()", "cast<B>(@a)"},
	'l': {"@a.l", "@a.l", "@a.h(@l)", "@w[@i]", "@w[@i]", "ask(@l)", "new A[@i]", "cast<A[]>(@l)"},
	'w': {"@a.w", "@a.w", "new A[][@i]", "ask(@w)"},
	'o': {"some(@a)", "some(@a)", "some(@c)", "@a.o", "none"},
}

// wilds are more of them, that may be wrong whatever marks there are.
var wilds = map[byte][]string{
	'i': {"@o.n", "toint(todouble(@i))", "(-@i)"}, 'b': {"(@o == null)", "(@a != @o)", "(#a is some)", "(#a is none)", "(#o is none)"}, 'a': {"#o.val", "#a.val", "@o", "@o!", "ask(@o)", "cast<A>(@o)", "some(@a)"},
	'c': {"cast<B>(@o)"}, 'l': {"some(@l)!", "new A[][@i][@i]"}, 'w': {"@w!", "cast<A[][]>(@w)"}, 'o': {"null", "@a", "@a!", "#a", "cast<Option<A>>(@a)", "some(@o)"},
}

// pick is one of some.
func (c *chance) pick(list ...string) string { return list[c.Intn(len(list))] }

// name is a local of a sort; empty, if there is none.
func (c *chance) name(sort byte) string {
	var list []string
	for _, l := range c.open {
		if l.sort == sort {
			list = append(list, l.name)
		}
	}
	if len(list) == 0 {
		return ""
	}
	return c.pick(list...)
}

// value is a value of a sort.
func (c *chance) value(sort byte, deep int) string {
	if name := c.name(sort); name != "" && (deep <= 0 || c.Intn(2) == 0) && c.Intn(8) > 0 {
		return name
	}
	if sort == 'a' && c.class != "Main" && c.Intn(3) > 0 || sort == 'c' && c.class == "B" && c.Intn(2) == 0 {
		return "this"
	}
	list := shapes[sort]
	switch {
	case deep <= 0:
		list = least[sort]
	case c.wild && c.Intn(5) == 0:
		list = wilds[sort]
	}
	shape := c.pick(list...)
	if c.begins && strings.HasPrefix(shape, "new ") && !strings.Contains(shape, "[") {
		return "cast<" + types[sort] + ">(" + c.pick("this", "null", "this.a") + ")"
	}
	return c.made(shape, deep-1)
}

// given is a value that comes to a type.
func (c *chance) given(sort byte, deep int) string {
	if c.wild && strings.Contains("aclwo", string(sort)) && c.Intn(12) == 0 {
		return c.pick("none", "null")
	}
	return c.value(sort, deep)
}

// made is what a shape is, with values in it: behind a # a local.
func (c *chance) made(shape string, deep int) string {
	if _, behind, ok := strings.Cut(shape, "#"); ok {
		sort := behind[:1]
		name := c.name(sort[0])
		if name == "" {
			return c.pick(least[map[bool]byte{true: 'b', false: 'a'}[strings.Contains(shape, " is ")]]...)
		}
		shape = strings.Replace(shape, "#"+sort, name, 1)
	}
	text := ""
	for {
		ahead, behind, more := strings.Cut(shape, "@")
		text += ahead
		if !more {
			return text
		}
		value := c.value(behind[0], deep)
		if alone := strings.HasSuffix(text, " = ") || strings.HasSuffix(text, ", ") || behind[1:] != "" && behind[1] == ','; !alone && (value == "null" || value == "none") {
			value = "cast<" + types[behind[0]] + ">(null)"
		}
		text += value
		shape = behind[1:]
	}
}

// block is a block of statements.
func (c *chance) block(deep, most int) string {
	outside := slices.Clip(c.open)
	text := "{ "
	for range c.Intn(most) {
		text += c.stat(deep)
	}
	c.open = outside
	return text + "} "
}

// stat is a statement.
func (c *chance) stat(deep int) string {
	sort := c.pick("a", "a", "a", "c", "l", "l", "w", "o", "i", "b")[0]
	switch k := c.Intn(18); {
	case k < 3 && c.names < 5:
		c.names++
		l := local{"v" + strconv.Itoa(c.names), sort}
		text := types[sort] + " " + l.name + " = " + c.given(sort, 2) + "; "
		c.open = append(c.open, l)
		return text
	case k < 6:
		if name := c.name(sort); name != "" {
			return name + " = " + c.given(sort, 2) + "; "
		}
	case k < 8:
		return c.made(c.pick("@a.a = @a; ", "@a.n = @i; ", "@a.b = @c; ", "@c.c = @a; ", "@a.l = @l; ", "@l[@i] = @a; ", "@l[@i] = @c; ", "@w[@i] = @l; ", "@w[@i][@i] = @a; ", "@a.o = @o; ", "@a.s = @a; "), 1)
	case k < 11:
		return c.made(c.pick("print(@i); ", "print(@b); ", "@a.f(@a, @i); ", "@a.g(@a, @l); ", "print(@a.n); ", "print(@l.length); ", "@a.v(@a); "), 1)
	case k == 11:
		if name := c.name('o'); name != "" {
			return c.pick("if ("+name+" is some) { print("+name+".val.n); } ", "if ("+name+" is none) "+c.block(0, 2)+"else { "+name+".val.a = "+name+".val; } ", "while ("+name+" is some) { "+name+" = "+name+".val.o; } ")
		}
	case k == 12 && c.loops > 0:
		return c.pick("break; ", "continue; ")
	case k == 13 && c.Intn(3) == 0:
		return c.back()
	case k < 16 && deep > 0:
		text := "if (" + c.value('b', 2) + ") " + c.block(deep-1, 5)
		if c.Intn(2) == 0 {
			text += "else " + c.block(deep-1, 4)
		}
		return text
	case k >= 16 && deep > 0:
		c.loops++
		text := "while (" + c.value('b', 2) + ") " + c.block(deep-1, 6)
		c.loops--
		return text
	}
	return ""
}

// back is a return.
func (c *chance) back() string {
	if c.answer == 0 {
		return "return; "
	}
	return "return " + c.given(c.answer, 1) + "; "
}

// body is a body of a method that answers a value of a sort (0: none), with parameters of sorts; what it begins with.
func (c *chance) body(class string, answer byte, params, begin string) string {
	c.class, c.open, c.names, c.loops, c.answer = class, nil, 0, 0, answer
	text := "("
	for i, sort := range []byte(params) {
		if i > 0 {
			text += ", "
		}
		l := local{string(rune('p'+i)) + strings.ToLower(class), sort}
		text += types[sort] + " " + l.name
		c.open = append(c.open, l)
	}
	c.begins = begin != "" && class != "Main"
	deep, most := 2, 7
	if begin != "" {
		deep, most = 1, 3
	}
	if class == "Main" {
		c.open = []local{{"x", 'a'}, {"y", 'c'}, {"z", 'l'}}
	}
	text += ") { " + c.made(begin, 1) + c.block(deep, most)
	if answer != 0 {
		text += c.back()
	}
	return text + "} "
}

// program is a whole one.
func (c *chance) program() string {
	text := "class A { int n; A a; A s; B b; A[] l; A[][] w; Option<A> o; init" + c.body("A", 0, "ai", c.pick("this.a = @a; this.l = new A[3]; this.l[0] = pa; this.s = this; this.w = new A[][2]; this.w[0] = this.l; ", "this.l = new A[2]; this.s = pa; this.a = this; this.l[1] = this; ", "if (pa == null) { pa = this; } this.s = pa; this.a = pa; this.l = new A[4]; this.l[input()] = pa; "))
	text += "int f" + c.body("A", 'i', "ai", "") + "A g" + c.body("A", 'a', "al", "") + "A[] h" + c.body("A", 'l', "l", "") + "void v" + c.body("A", 0, "a", "") + "} "
	text += "class B extends A { A c; init" + c.body("B", 0, "", c.pick("super(this, @i); this.c = @a; ", "super(null, 1); this.c = this; this.b = this; "))
	text += "A g" + c.body("B", 'a', "al", "") + "B e" + c.body("B", 'c', "c", "") + "void v" + c.body("B", 0, "a", "") + "} "
	begin := "A x = new A(null, 1); B y = new B(); x = new A(y, 2); x.a = y; x.b = y; y.a = x; A[] z = new A[2]; z[0] = x; z[1] = y; x.l = z; x.o = some(x); y.o = some(y); "
	calls := []string{"if (input() > 1) { print(x.f(y, 1)); } ", "if (input() > 1) { x.v(x); } ", "if (input() > 1) { y.v(x); } ", "if (input() > 1) { x = y.g(x, z); } ", "if (input() > 1) { z = x.h(z); } ", "if (input() > 1) { y = y.e(y); } "}
	c.Shuffle(len(calls), func(i, k int) { calls[i], calls[k] = calls[k], calls[i] })
	return text + "class Main { int main" + c.body("Main", 'i', "", begin+strings.Join(calls[:3], "")) + "}"
}

// piece is something that may be put in a text.
type piece struct {
	at   int
	text string
}

// with is a text with some pieces put in.
func with(text string, list []piece) string {
	for _, p := range slices.Backward(list) {
		text = text[:p.at] + p.text + text[p.at:]
	}
	return text
}

// pieces are all marks that a program's types may have, and guards for all values of which something is asked, in order.
func pieces(x *base.Info) []piece {
	var list []piece
	for node := range x.Len() {
		n := x.Node(node)
		if n.Kind != api.New {
			for _, layer := range kind.Layers(n.Type) {
				if n.Type.Marks[layer] == api.Plain {
					list = append(list, piece{n.Ends[layer], "?"})
				}
			}
		}
		if slices.Contains([]int{api.Get, api.Index, api.Length, api.Call, api.Some}, n.Kind) {
			list = append(list, piece{x.Node(n.Kids[0]).To, "!"})
		}
	}
	slices.SortStableFunc(list, func(a, b piece) int { return a.at - b.at })
	return list
}

// some are some of the pieces of a program.
func (c *chance) some(list []piece, of int) []piece {
	var left []piece
	for _, p := range list {
		if c.Intn(of) > 0 {
			left = append(left, p)
		}
	}
	return left
}

// P20.1 to P20.5: of programs of all kinds, with all marks, some, and none, what is wrong is told as the document tells.
func TestModel(t *testing.T) {
	c := &chance{Rand: rand.New(rand.NewSource(20))}
	told := map[int]int{}
	for i := range 800 {
		c.wild = i%2 == 0
		text := c.program()
		x := known(t, text)
		list := pieces(x)
		if i%4 < 2 {
			list = c.some(list, 5)
		}
		for what, n := range hold(t, known(t, with(text, list)), i%3 == 0) {
			told[what] += n
		}
		if i%5 == 0 {
			hold(t, x, i%3 == 0)
		}
	}
	for what := Flows; what <= Option; what++ {
		if told[what] < 200 {
			t.Errorf("%s: but %d times", words[what], told[what])
		}
	}
}

// P20.1 to P20.5: whatever numbers a program's nodes have.
func TestMixed(t *testing.T) {
	c := &chance{Rand: rand.New(rand.NewSource(21)), wild: true}
	for range 100 {
		text := c.program()
		p, f := parse.Parse(with(text, c.some(pieces(known(t, text)), 3)))
		if f != (api.Fault{}) {
			t.Fatal(f)
		}
		x, _ := base.Of(c.mixed(p))
		if x == nil {
			t.Fatal("mixed")
		}
		hold(t, x, false)
	}
}

// mixed is a program whose nodes have other numbers, each still behind those that it is made of.
func (c *chance) mixed(p api.Tree) api.Tree {
	var nodes []api.Node
	var grow func(at int) int
	grow = func(at int) int {
		n := p.Nodes[at]
		kids := slices.Clone(n.Kids)
		for _, i := range c.Perm(len(kids)) {
			kids[i] = grow(n.Kids[i])
		}
		n.Kids = kids
		nodes = append(nodes, n)
		return len(nodes) - 1
	}
	return api.Tree{Root: grow(p.Root), Nodes: nodes}
}

// needed are those of the pieces of a program with which nothing is wrong of which none may be left out, as far as so many are tried.
func (c *chance) needed(text string, list []piece, tries int) []piece {
	order := c.Perm(len(list))
	out := map[int]bool{}
	left := func() []piece {
		var some []piece
		for i, p := range list {
			if !out[i] {
				some = append(some, p)
			}
		}
		return some
	}
	for _, i := range order[:min(tries, len(order))] {
		out[i] = true
		if _, f := Program(with(text, left())); f.Code != api.OK {
			delete(out, i)
		}
	}
	return left()
}

// P20.7: a program with which nothing is wrong never asks null, though it does without marks and guards.
func TestRuns(t *testing.T) {
	c := &chance{Rand: rand.New(rand.NewSource(27))}
	programs, guards, marks, out, null, ends := 0, 0, 0, 0, 0, map[int]int{}
	for tries := 0; tries < 500 && programs < 25; tries++ {
		text := c.program()
		x := known(t, text)
		all := pieces(x)
		if _, f := Program(with(text, all)); f.Code != api.OK { // an option may be asked for what it doesn't hold
			continue
		}
		programs++
		list := c.needed(text, all, 150)
		out += len(all) - len(list)
		for _, p := range list {
			if p.text == "!" {
				guards++
			} else {
				marks++
			}
		}
		y, f := Program(with(text, list))
		if y == nil {
			t.Fatal(f)
		}
		for range 60 {
			var in []int64
			for range c.Intn(40) {
				in = append(in, int64(c.Intn(4)))
			}
			run := eval.Run(y, in, 2000)
			ends[run.End]++
			if run.End == api.NullFault {
				t.Fatalf("of %s, with %v", with(text, list), in)
			}
			if eval.Run(x, in, 2000).End == api.NullFault {
				null++
			}
		}
	}
	if programs < 25 || guards < 300 || marks < 1000 || out < 1000 || null < 300 || ends[api.Done] < 50 || ends[api.OutOfFuel] < 50 {
		t.Errorf("%d guards, %d marks, %d left out, %d null, %v", guards, marks, out, null, ends)
	}
}
