package demand

import (
	"math/rand"
	"slices"
	"strconv"
	"strings"
	"testing"

	"caulker/api"
	"caulker/base"
	"caulker/eval"
	"caulker/parse"
)

// chance makes programs, the same ones each time.
type chance struct {
	*rand.Rand
	marks  int // of how many types one has a mark, about; 0: none has
	class  string
	begins bool // whether an init is made, in which new objects would begin others without end
	open   []local
	names  int
	loops  int
	answer byte // the sort of what its returns give; 0: none
}

// local is one that may be named, and its sort.
type local struct {
	name string
	sort byte
}

// types are those that the sorts have: behind a ~ a mark may stand.
var types = map[byte]string{'i': "int", 'b': "bool", 'a': "A~", 'c': "B~", 'l': "A~[]~"}

// shapes are values of a sort: behind a @ stands another one, of a sort; those ahead of the bar are made of nothing else.
var shapes = map[byte][2][]string{
	'i': {{"0", "1", "input()"}, {"@a.n", "@a.n", "@l.length", "(@i + @i)", "@a.f(@a, @l)", "@l[@i].n"}},
	'b': {{"(input() > 0)", "(input() > 1)"}, {"(@a == null)", "(@a != null)", "(@a != null)", "(null == @l)", "(@l != null)", "(!@b)", "(@b && @b)", "(@b || @b)", "(@a == @a)", "(@i < @i)"}},
	'a': {{"null", "this", "this", "new B(null)"}, {"@a.a", "@a.a", "@l[@i]", "@a.g(@a, @a)", "@c.g(@a, @a)", "cast<A~>(@a)", "ask(@a)", "@c"}},
	'c': {{"null", "new B(null)"}, {"ask(@c)", "cast<B~>(@a)"}},
	'l': {{"null", "new A~[2]"}, {"@a.l", "@a.l", "ask(@l)"}},
}

// pick is one of some, with marks where they may be.
func (c *chance) pick(list ...string) string {
	pieces := strings.Split(list[c.Intn(len(list))], "~")
	text := pieces[0]
	for _, piece := range pieces[1:] {
		if c.marks > 0 && c.Intn(c.marks) == 0 {
			text += "?"
		}
		text += piece
	}
	return text
}

// value is a value of a sort.
func (c *chance) value(sort byte, deep int) string {
	for _, i := range c.Perm(len(c.open)) {
		if l := c.open[i]; l.sort == sort && c.Intn(3) > 0 {
			return l.name
		}
	}
	shape := c.pick(shapes[sort][min(1, max(deep, 0))]...)
	if shape == "this" && c.class == "Main" || strings.HasPrefix(shape, "new B") && c.begins {
		shape = "null"
	}
	return c.made(shape, deep-1)
}

// made is what a shape is, with values in it; null of which something is asked, or that is held against something, is cast.
func (c *chance) made(shape string, deep int) string {
	text := ""
	for {
		ahead, behind, more := strings.Cut(shape, "@")
		text += ahead
		if !more {
			return text
		}
		value := c.value(behind[0], deep)
		alone := strings.HasSuffix(text, " = ") || strings.HasSuffix(text, ", ") || behind[1:] != "" && behind[1] == ','
		if value == "null" && !alone {
			value = "cast<" + c.pick(types[behind[0]]) + ">(null)"
		} else if value != "null" && c.marks > 0 && c.Intn(12) == 0 && strings.Contains("acl", behind[:1]) {
			value += "!"
		}
		text += value
		shape = behind[1:]
	}
}

// block is a block of statements.
func (c *chance) block(deep, most int) string {
	outside := slices.Clip(c.open)
	text := "{ "
	for range c.Intn(most + 1) {
		text += c.stat(deep)
	}
	c.open = outside
	return text + "} "
}

// stat is a statement.
func (c *chance) stat(deep int) string {
	sort := c.pick("a", "a", "c", "l")[0]
	switch k := c.Intn(20); {
	case k < 2 && c.names < 4:
		c.names++
		l := local{"v" + strconv.Itoa(c.names), sort}
		text := c.pick(types[sort]) + " " + l.name + " = " + c.value(sort, 1) + "; "
		c.open = append(c.open, l)
		return text
	case k == 2:
		for _, i := range c.Perm(len(c.open)) {
			if l := c.open[i]; l.sort == sort {
				return l.name + " = " + c.value(sort, 1) + "; "
			}
		}
	case k < 6:
		return c.made(c.pick("@a.a = @a; ", "@a.n = @i; ", "@a.l = @l; ", "@l[@i] = @a; "), 1)
	case k < 12:
		return c.made(c.pick("print(@i); ", "@a.f(@a, @l); ", "@a.v(@a); ", "@c.v(@a); ", "print(@a.n); ", "print(@l.length); "), 1)
	case k == 12 && c.loops > 0:
		return c.pick("break; ", "continue; ")
	case k == 13:
		return c.back()
	case k < 18 && deep > 0:
		text := "if (" + c.value('b', 1) + ") " + c.block(deep-1, 3)
		if c.Intn(2) == 0 {
			text += "else " + c.block(deep-1, 3)
		}
		return text
	case k >= 18 && deep > 0:
		c.loops++
		text := "while (" + c.value('b', 1) + ") " + c.block(deep-1, 3)
		c.loops--
		return text
	}
	return ""
}

// back is a return.
func (c *chance) back() string {
	if c.answer == 0 {
		return "return; "
	}
	return "return " + c.value(c.answer, 1) + "; "
}

// body is a method (or an init) that answers a value of a sort (0: none), with parameters of sorts; what it begins with.
func (c *chance) body(class, name string, answer byte, params, begin string) string {
	c.class, c.open, c.names, c.loops, c.answer, c.begins = class, nil, 0, 0, answer, name == "init"
	text := name + "("
	switch {
	case answer != 0:
		text = c.pick(types[answer]) + " " + text
	case name != "init":
		text = "void " + text
	}
	for i, sort := range []byte(params) {
		l := local{string(rune('p' + i)), sort}
		text += ", "[:2*min(1, i)] + c.pick(types[sort]) + " " + l.name
		c.open = append(c.open, l)
	}
	text += ") { " + c.made(begin, 1) + c.block(2, 4)
	if answer != 0 {
		text += c.back()
	}
	return text + "} "
}

// program is a whole one; what its main does.
func (c *chance) program() string {
	text := "class A { int n; " + c.pick(types['a']) + " a; " + c.pick(types['l']) + " l; " + c.body("A", "init", 0, "a", c.pick("this.a = p; ", "this.a = this; this.l = new A~[3]; ", "this.a = @a; this.l = new A~[2]; this.l[0] = this; "))
	text += c.body("A", "f", 'i', "al", "") + c.body("A", "g", 'a', "aa", "") + c.body("A", "v", 0, "a", "") + "} class B extends A { " + c.body("B", "init", 0, "a", c.pick("super(p); ", "super(this); ", "super(@a); "))
	for _, method := range []string{"f i al", "g a aa", "v v a"} {
		if part := strings.Fields(method); c.Intn(2) == 0 {
			text += c.body("B", part[0], part[1][0]%'v', part[2], "") // of v: 0
		}
	}
	return text + "} class Main { int main() { return 1; } }"
}

// P23.1 to P23.3: of programs of all kinds, with marks and without, that is found which the document tells.
func TestModel(t *testing.T) {
	c := &chance{Rand: rand.New(rand.NewSource(23))}
	ones, alls, params := 0, 0, 0
	for i := range 600 {
		c.marks = i % 3 * 2
		x := known(t, c.program())
		r, f := Find(x)
		if r == nil || f != (api.Fault{}) {
			t.Fatal(f)
		}
		one, all := hold(t, x, r)
		ones += one
		alls += all
		for node := range x.Len() {
			if x.Node(node).Kind == api.Param {
				params++
			}
		}
	}
	if alls < 300 || ones < alls+100 || params < ones+1000 {
		t.Errorf("%d, %d, of %d", alls, ones, params)
	}
}

// P23.1 to P23.3: whatever numbers a program's nodes have.
func TestMixed(t *testing.T) {
	c := &chance{Rand: rand.New(rand.NewSource(230)), marks: 5}
	ones := 0
	for range 100 {
		p, f := parse.Parse(c.program())
		if f != (api.Fault{}) {
			t.Fatal(f)
		}
		x, f := base.Of(c.mixed(p))
		if x == nil {
			t.Fatal(f)
		}
		r, f := Find(x)
		if r == nil {
			t.Fatal(f)
		}
		one, _ := hold(t, x, r)
		ones += one
	}
	if ones < 50 {
		t.Errorf("but %d", ones)
	}
}

// mixed is a program whose nodes have other numbers, each still behind those that it is made of.
func (c *chance) mixed(p api.Tree) api.Tree {
	var nodes []api.Node
	var grow func(at int) int
	grow = func(at int) int {
		n := p.Nodes[at]
		kids := slices.Clone(n.Kids)
		for _, i := range c.Perm(len(kids)) {
			kids[i] = grow(n.Kids[i])
		}
		n.Kids = kids
		nodes = append(nodes, n)
		return len(nodes) - 1
	}
	return api.Tree{Root: grow(p.Root), Nodes: nodes}
}

// calls are calls of a method, on an A, on a B, or of a class's init, with null for one of its parameters, and others that aren't.
func calls(x *base.Info, b base.Body, number int) []string {
	n := x.Node(b.Node)
	args := "("
	for i, kid := range n.Kids[:len(n.Kids)-1] {
		value := "x"
		switch {
		case i == number:
			value = "null"
		case x.Node(kid).Type.Dims == 1:
			value = "z"
		}
		args += ", "[:2*min(1, i)] + value
	}
	if b.Init {
		return []string{"new " + b.Owner + args + "); "}
	}
	list := []string{"y." + n.Text + args + "); ", "w." + n.Text + args + "); "}
	if b.Owner == "A" {
		return append(list, "x."+n.Text+args+"); ")
	}
	return list
}

// P23.4: a call by which a parameter that is demanded is given null never comes to its end; others do.
func TestRuns(t *testing.T) {
	c := &chance{Rand: rand.New(rand.NewSource(231))}
	tried, asked, ends := 0, 0, 0
	for range 80 {
		text := c.program()
		x := known(t, text)
		r, f := Find(x)
		if r == nil {
			t.Fatal(f)
		}
		for _, b := range x.Bodies() {
			for number, param := range x.Node(b.Node).Kids {
				if n := x.Node(param); n.Kind != api.Param || len(n.Type.Name) == 0 {
					continue
				}
				for _, call := range calls(x, b, number) {
					if r.Is(param) {
						tried++
					}
					y := known(t, strings.Replace(text, "int main() { ", "int main() { A x = new A(null); B y = new B(x); x = new A(y); A w = y; A[] z = new A[3]; z[0] = x; z[1] = y; x.l = z; y.l = z; print(7); "+call, 1))
					for range 8 {
						run := eval.Run(y, []int64{int64(c.Intn(3)), int64(c.Intn(3)), int64(c.Intn(2)), 1, int64(c.Intn(3)), 2, 1, int64(c.Intn(3))}, 1500)
						begun := slices.ContainsFunc(run.Out, func(o api.Out) bool { return o.N == 7 })
						switch {
						case r.Is(param) && run.End == api.Done:
							t.Fatalf("%s of %s", call, text)
						case r.Is(param) && begun:
							asked++
						case run.End == api.Done:
							ends++
						}
					}
				}
			}
		}
	}
	if tried < 300 || asked < 300 || ends < 700 {
		t.Errorf("%d calls, %d begun, %d others come to their end", tried, asked, ends)
	}
}
