package cfg

import (
	"math/rand"
	"slices"
	"strconv"
	"strings"
	"testing"

	"caulker/api"
	"caulker/base"
	"caulker/tree"
)

// chance makes programs with which nothing is wrong, the same ones each time.
type chance struct {
	*rand.Rand
	open   map[string][]string // the locals that may be named, by their types
	names  int
	loops  int
	answer string // what its returns give
}

// pick is one of some.
func (c *chance) pick(list ...string) string { return list[c.Intn(len(list))] }

// name is a local of a type; else another value.
func (c *chance) name(of, other string) string {
	if list := c.open[of]; len(list) > 0 && c.Intn(5) > 0 {
		return c.pick(list...)
	}
	return other
}

// sorts are the types that a letter behind a @ stands for.
var sorts = map[byte]string{'i': "int", 'b': "bool", 'd': "double", 's': "str", 'a': "A?", 'l': "A?[]?", 'o': "Option<A>"}

// shapes are values of a type, in brackets where that may be needed: behind a @ stands another one, of a type (a great letter: it may be null or none itself).
var shapes = map[string][]string{
	"int":       {"input()", "(-@i)", "(@i + @i)", "(@i % @i)", "toint(@d)", "@a.n", "@l.length", "@a.f(@A, @b)"},
	"bool":      {"(!@b)", "(!@b)", "(@b && @b)", "(@b && @b)", "(@b || @b)", "(@b || @b)", "(@b == @b)", "(@a == null)", "(null == @a)", "(@a != null)", "(null != @a)", "(@l == null)", "(null != @l)", "(@a == @a)", "(@l != @l)", "(null == null)", "(@i < @i)", "@a.t", "(#o is some)", "(#o is none)"},
	"double":    {"todouble(@i)"},
	"str":       {"(@s + @s)"},
	"A?":        {"(new A())", "cast<A?>(@A)", "ask(@a)", "@a!", "@a!", "@a.a", "@l[@i]", "@a.g(@L)", "@o!", "#o.val"},
	"A?[]?":     {"(new A?[@i])", "@a.l", "@l!", "ask(@l)"},
	"Option<A>": {"some(@a)", "@a.o"},
}

// least are values of a type that are made of nothing.
var least = map[string]string{"int": "1", "bool": "true", "double": "2.5", "str": `"s"`, "A?": "this", "A?[]?": "(new A?[2])", "Option<A>": "some(this)"}

// value is a value of a type.
func (c *chance) value(of string, deep int) string {
	if deep <= 0 || c.Intn(4) == 0 {
		return c.name(of, least[of])
	}
	return c.made(c.pick(shapes[of]...), deep-1)
}

// made is what a shape is, with values in it.
func (c *chance) made(shape string, deep int) string {
	if options := c.open["Option<A>"]; len(options) > 0 {
		shape = strings.Replace(shape, "#o", c.pick(options...), 1)
	} else if strings.Contains(shape, "#o") {
		return least[map[bool]string{true: "A?", false: "bool"}[strings.Contains(shape, "val")]]
	}
	text := ""
	for {
		ahead, behind, more := strings.Cut(shape, "@")
		text += ahead
		if !more {
			return text
		}
		letter := behind[0]
		if of := sorts[letter]; of != "" {
			text += c.value(of, deep)
		} else {
			text += c.given(sorts[letter+'a'-'A'], deep)
		}
		shape = behind[1:]
	}
}

// given is a value that comes to a type: it may be null or none itself.
func (c *chance) given(of string, deep int) string {
	switch {
	case of[0] == 'A' && c.Intn(5) == 0:
		return "null"
	case of[0] == 'O' && c.Intn(3) == 0:
		return "none"
	}
	return c.value(of, deep)
}

// types are what locals are of.
var types = []string{"int", "bool", "A?", "A?[]?", "Option<A>"}

// block is a block of statements.
func (c *chance) block(deep, most int) string {
	outside := map[string][]string{}
	for of, list := range c.open {
		outside[of] = slices.Clip(list)
	}
	text := "{ "
	for range c.Intn(most) {
		text += c.stat(deep)
	}
	c.open = outside
	return text + "} "
}

// stat is a statement.
func (c *chance) stat(deep int) string {
	of := c.pick(types...)
	switch k := c.Intn(14); {
	case k < 2 && c.names < 40:
		c.names++
		name := "v" + strconv.Itoa(c.names)
		text := of + " " + name
		if c.Intn(3) > 0 {
			text += " = " + c.given(of, 3)
		}
		c.open[of] = append(c.open[of], name)
		return text + "; "
	case k < 4:
		if name := c.name(of, ""); name != "" {
			return name + " = " + c.given(of, 3) + "; "
		}
	case k == 4:
		return c.made(c.pick("@a.a = @A; ", "@a.n = @i; ", "@a.l[@i] = @A; ", "@l[@i] = @A; "), 2)
	case k < 7:
		return c.made(c.pick("print(@i); ", "print(@b); ", "print(@s); ", "@a.f(@A, @b); ", "new A(); "), 3)
	case k == 7 && c.loops > 0:
		return c.pick("break; ", "continue; ")
	case k == 8 && c.Intn(3) == 0:
		if c.answer == "" {
			return "return; "
		}
		return "return " + c.given(c.answer, 3) + "; "
	case k < 11 && deep > 0:
		text := "if (" + c.value("bool", 4) + ") " + c.block(deep-1, 4)
		if c.Intn(2) == 0 {
			text += "else " + c.block(deep-1, 4)
		}
		return text
	case k < 13 && deep > 0:
		c.loops++
		text := "while (" + c.value("bool", 4) + ") " + c.block(deep-1, 5)
		c.loops--
		return text
	case k == 13 && deep > 0:
		return c.block(deep-1, 4)
	}
	return ""
}

// body is a body, with its parameters.
func (c *chance) body(answer string, params ...string) string {
	c.open, c.names, c.loops, c.answer = map[string][]string{}, 0, 0, answer
	text := "("
	for i, of := range params {
		if i > 0 {
			text += ", "
		}
		name := "p" + strconv.Itoa(i)
		text += of + " " + name
		c.open[of] = append(c.open[of], name)
	}
	return text + ") " + c.block(3, 8)
}

// program is a whole one. Its methods need not answer: that isn't asked here.
func (c *chance) program() string {
	return "class A { int n; bool t; A? a; A?[]? l; Option<A> o; init" + c.body("") + "int f" + c.body("int", "A?", "bool") + "A? g" + c.body("A?", "A?[]?") + "void h" + c.body("", "Option<A>", "A?", "A?[]?", "int") + "} class Main { int main() { return 1; } } "
}

// mixed is a program whose nodes have other numbers, each still behind those that it is made of.
func (c *chance) mixed(p api.Tree) api.Tree {
	var nodes []api.Node
	var grow func(at int) int
	grow = func(at int) int {
		n := p.Nodes[at]
		kids := slices.Clone(n.Kids)
		for _, i := range c.Perm(len(kids)) {
			kids[i] = grow(n.Kids[i])
		}
		n.Kids = kids
		nodes = append(nodes, n)
		return len(nodes) - 1
	}
	return api.Tree{Root: grow(p.Root), Nodes: nodes}
}

// P17.1 to P17.5: of programs of all kinds, whatever numbers their nodes have, the graphs are as the document tells.
func TestModel(t *testing.T) {
	c := &chance{Rand: rand.New(rand.NewSource(17))}
	kinds := map[int]int{}
	all := map[int]int{}
	gone := 0
	for range 1000 {
		x := known(t, c.program())
		hold(t, x)
		for i := range x.Len() {
			kinds[x.Node(i).Kind]++
		}
		for i := range x.Bodies() {
			g := Of(x, i)
			for i, there := range g.Reached() {
				all[g.Node(i).Kind]++
				if !there {
					gone++
				}
			}
		}
		p := c.mixed(x.Tree())
		y, f := base.Of(p)
		if y == nil {
			t.Fatalf("%v of %s", f, tree.Form(p, p.Root))
		}
		hold(t, y)
	}
	for kind := Join; kind <= End; kind++ {
		if all[kind] < 500 {
			t.Errorf("%c: but %d times", letters[kind], all[kind])
		}
	}
	for kind := api.Block; kind < api.Kinds; kind++ {
		if kinds[kind] < 100 && kind != api.Super {
			t.Errorf("%s: but %d times", tree.Name(kind), kinds[kind])
		}
	}
	if gone < 5000 {
		t.Errorf("but %d nodes to which no way leads", gone)
	}
}
