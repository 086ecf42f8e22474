package infer

import (
	"math/rand"
	"slices"
	"strconv"
	"strings"
	"testing"

	"caulker/api"
	"caulker/base"
	"caulker/strict"
)

// chance makes programs, the same ones each time.
type chance struct {
	*rand.Rand
	marks  int // of how many layers of types one has a mark, about; 0: none has
	wild   int // of how many values one is an option, about; 0: none is
	class  string
	open   []local
	names  int
	answer byte // the sort of what its returns give; 0: none
}

// local is one that may be named, and its sort.
type local struct {
	name string
	sort byte
}

// types are those that the sorts have: behind a ~ a mark may stand.
var types = map[byte]string{'i': "int", 'b': "bool", 'a': "A~", 'c': "B~", 'l': "A~[]~", 'w': "A~[]~[]~", 'k': "int[]~[]~", 'o': "Option<A>"}

// shapes are values of a sort: behind a @ stands another one, of a sort; those ahead of the bar are made of nothing else.
var shapes = map[byte][2][]string{
	'i': {{"0", "1", "input()"}, {"@a.n", "@l.length", "@k[0][1]", "@w[@i].length", "(@i + @i)"}},
	'b': {{"true", "(input() > 0)"}, {"(@a == null)", "(@a != null)", "(null != @c)", "(@l != null)", "(@a == @c)", "(!@b)", "(@b && @b)", "(@b || @b)"}},
	'a': {{"null", "new B()", "ask(new B())"}, {"@a.a", "@a.b", "@c.c", "@l[@i]", "@l[@i]", "@w[0][@i]", "@a.f(@a, @l)", "@c.f(@a, @l)", "@a.e(@a)", "cast<A~>(@a)", "cast<A~>(@c)", "ask(@a)", "@c", "new A(@a, @l)"}},
	'c': {{"null", "new B()", "ask(new B())"}, {"@a.b", "@a.e(@a)", "cast<B~>(@a)", "ask(@c)"}},
	'l': {{"null", "new A~[2]", "new A~[input()]"}, {"@a.l", "@a.l", "@w[@i]", "@w[@i]", "@a.g(@w)", "ask(@l)", "cast<A~[]~>(@l)"}},
	'w': {{"null", "new A~[]~[2]"}, {"@a.w", "@a.w", "ask(@w)", "cast<A~[]~[]~>(@w)"}},
	'k': {{"null", "new int[]~[2]"}, {"@a.k", "ask(@k)"}},
	'o': {{"none", "some(new B())"}, {"some(@a)", "@a.o", "none"}},
}

// pick is one of some, with marks where they may be.
func (c *chance) pick(list ...string) string {
	pieces := strings.Split(list[c.Intn(len(list))], "~")
	text := pieces[0]
	for _, piece := range pieces[1:] {
		if c.marks > 0 && c.Intn(c.marks) == 0 {
			text += "?"
		}
		text += piece
	}
	return text
}

// value is a value of a sort.
func (c *chance) value(sort byte, deep int) string {
	for _, i := range c.Perm(len(c.open)) {
		if l := c.open[i]; l.sort == sort && c.Intn(3) > 0 {
			return l.name
		}
	}
	switch {
	case sort == 'a' && c.class != "Main" && c.Intn(4) == 0, sort == 'c' && c.class == "B" && c.Intn(3) == 0:
		return "this"
	case sort == 'a' && c.wild > 0 && c.Intn(c.wild) == 0:
		for _, l := range c.open {
			if l.sort == 'o' {
				return c.pick(l.name, l.name+".val", l.name+".val", l.name+".val", l.name+".val", "cast<A>("+l.name+")")
			}
		}
		return c.made("some(@a)", 0)
	}
	return c.made(c.pick(shapes[sort][min(1, max(deep, 0))]...), deep-1)
}

// made is what a shape is, with values in it; null of which something is asked, or that is held against something, is cast.
func (c *chance) made(shape string, deep int) string {
	text := ""
	for {
		ahead, behind, more := strings.Cut(shape, "@")
		text += ahead
		if !more {
			return text
		}
		sort := behind[0]
		shape = behind[1:]
		value := c.value(sort, deep)
		alone := (shape == "" || shape[0] == ',' || shape[0] == ';' || shape[0] == ')') && !strings.HasSuffix(text, "ask(") && !strings.HasSuffix(text, "== ") && !strings.HasSuffix(text, "!= ") && !strings.HasPrefix(shape, ") ")
		if value == "null" && (!alone || strings.HasSuffix(text, "some(")) {
			value = "cast<" + c.pick(types[sort]) + ">(null)"
		}
		if c.marks > 0 && strings.Contains("aclw", string(sort)) && value != "null" && c.Intn(6) == 0 && !strings.HasSuffix(text, ".") {
			value += "!"
		}
		text += value
	}
}

// block is a block of statements.
func (c *chance) block(deep, most int) string {
	outside := slices.Clip(c.open)
	text := "{ "
	for range c.Intn(most + 1) {
		text += c.stat(deep)
	}
	c.open = outside
	return text + "} "
}

// stat is a statement.
func (c *chance) stat(deep int) string {
	sort := c.pick("a", "a", "a", "c", "l", "l", "w", "k", "i")[0]
	switch k := c.Intn(14); {
	case k < 4 && c.names < 9:
		c.names++
		l := local{"v" + strconv.Itoa(c.names), sort}
		text := c.pick(types[sort]) + " " + l.name + " = " + c.value(sort, 2) + "; "
		c.open = append(c.open, l)
		return text
	case k < 6:
		for _, l := range c.open {
			if l.sort == sort {
				return l.name + " = " + c.value(sort, 2) + "; "
			}
		}
	case k < 9:
		return c.made(c.pick("@a.a = @a; ", "@a.n = @i; ", "@a.b = @c; ", "@c.c = @a; ", "@a.l = @l; ", "@a.w = @w; ", "@l[@i] = @a; ", "@l[@i] = @c; ", "@w[@i] = @l; ", "@w[@i][@i] = @a; ", "@a.k = @k; ", "@k[0] = null; "), 1)
	case k < 11:
		return c.made(c.pick("print(@i); ", "@a.f(@a, @l); ", "@a.v(@a, @o); ", "@c.v(@a, @o); ", "@a.o = @o; ", "print(@a.n); ", "@a.g(@w); "), 1)
	case k < 13 && deep > 0:
		return c.pick("if", "while") + " (" + c.value('b', 2) + ") " + c.block(deep-1, 3)
	case k == 13 && deep < 2:
		return c.back()
	}
	return ""
}

// back is a return.
func (c *chance) back() string {
	if c.answer == 0 {
		return "return; "
	}
	return "return " + c.value(c.answer, 1) + "; "
}

// body is a body of a method that answers a value of a sort (0: none), with parameters of sorts; what it begins with.
func (c *chance) body(class, name string, answer byte, params, begin string) string {
	c.class, c.open, c.names, c.answer = class, nil, 0, answer
	text := name + "("
	if name != "init" {
		text = "void " + text
		if answer != 0 {
			text = c.pick(types[answer]) + text[4:]
		}
	}
	for i, sort := range []byte(params) {
		l := local{string(rune('p' + i)), sort}
		text += ", "[:2*min(1, i)] + c.pick(types[sort]) + " " + l.name
		c.open = append(c.open, l)
	}
	text += ") { " + c.made(begin, 1) + c.block(2, 6)
	if answer != 0 {
		text += c.back()
	}
	return text + "} "
}

// program is a whole one.
func (c *chance) program() string {
	text := "class A { int n; Option<A> o; "
	for _, sort := range "abclwk" {
		text += c.pick(types[byte(sort)]) + " " + string(sort) + "; "
	}
	text = strings.Replace(strings.Replace(text, " b; ", " t; ", 1), " c; ", " b; ", 1)
	text += c.body("A", "init", 0, "al", c.pick("this.a = @a; this.l = @l; ", "this.l = q; ", "this.w = new A~[]~[1]; this.a = p; this.k = @k; "))
	text += c.body("A", "f", 'a', "al", "") + c.body("A", "g", 'l', "w", "") + c.body("A", "v", 0, "ao", c.pick("", "if (q is some) { p = q.val; } ", "if (q is none) { return; } ")) + c.body("A", "e", 'c', "a", "") + "} "
	text += "class B extends A { " + c.pick(types['a']) + " c; " + c.body("B", "init", 0, "", c.pick("super(this, @l); this.c = @a; ", "super(null, null); ", "super(@a, @l); this.c = this; "))
	text += c.body("B", "f", 'a', "al", "") + c.body("B", "v", 0, "ao", c.pick("", "while (q is some) { q.val.a = q.val; } ")) + "} "
	return text + "class Main { " + c.body("Main", "main", 'i', "", "") + "}"
}

// some are some of the places of a program.
func (c *chance) some(x *base.Info, of int) []strict.Place {
	var list []strict.Place
	for _, p := range Places(x.Tree()) {
		if c.Intn(of) == 0 {
			list = append(list, p)
		}
	}
	return list
}

// P22.2 to P22.4: of programs of all kinds, and with some places shut, that is found which the document tells.
func TestModel(t *testing.T) {
	c := &chance{Rand: rand.New(rand.NewSource(22))}
	marks, guards, cuts, rounds, faults := 0, 0, 0, map[int]int{}, map[api.Errno]int{}
	for i := range 300 {
		c.marks, c.wild = []int{0, 0, 4, 2}[i%4], 0
		if i%3 == 0 {
			c.wild = 100
		}
		text := c.program()
		x := known(t, text)
		var shut []strict.Place
		if i%3 > 0 {
			shut = c.some(x, 1+c.Intn(4))
		}
		f := hold(t, text, i%2 == 0, shut...)
		marks += len(f.marked)
		guards += len(f.guards)
		cuts += len(f.cuts)
		rounds[min(f.rounds, 6)]++
		faults[f.fault.Code]++
	}
	if marks < 5000 || guards < 2000 || cuts < 300 || rounds[3] < 20 || rounds[4] < 30 || rounds[5] < 30 || rounds[6] < 20 || faults[api.ErrKind] < 5 || faults[api.ErrNull] < 1 || faults[api.OK] < 200 {
		t.Errorf("%d marks, %d guards, %d cuts, %v, %v", marks, guards, cuts, rounds, faults)
	}
}
