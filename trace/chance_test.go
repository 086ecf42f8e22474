package trace

import (
	"math/rand"
	"slices"
	"strconv"
	"strings"
	"testing"

	"caulker/plan"
	"caulker/strict"
)

// chance makes programs without marks, the same ones each time.
type chance struct {
	*rand.Rand
	class  string
	begins bool // whether an init is made, in which new objects would begin others without end
	open   []local
	names  int
	loops  int
	answer byte // the sort of what its returns give; 0: none
}

// local is one that may be named, and its sort.
type local struct {
	name string
	sort byte
}

// types are those that the sorts have.
var types = map[byte]string{'i': "int", 'b': "bool", 'a': "A", 'c': "B", 'l': "A[]", 'w': "A[][]"}

// least are values of a sort that are made of nothing.
var least = map[byte][]string{'i': {"0", "1", "input()"}, 'b': {"true", "(input() > 0)", "(input() > 1)"}, 'a': {"null", "new B()"}, 'c': {"null", "new B()"}, 'l': {"null", "new A[2]"}, 'w': {"null", "new A[][2]"}}

// shapes are values of a sort, in brackets where that may be needed: behind a @ stands another one, of a sort.
var shapes = map[byte][]string{
	'i': {"input()", "(@i + @i)", "@a.n", "(@a).n", "@l.length", "@a.f(@a, @i)", "@l[@i].n"},
	'b': {"(!@b)", "(@b && @b)", "(@b && @b)", "(@b || @b)", "(@a == null)", "(null != @a)", "((@a) != null)", "(@c != null)", "(@l == null)", "(@l != null)", "(@a == @a)", "(@i < @i)"},
	'a': {"@a.a", "@a.a", "@a.s", "@c.c", "@l[@i]", "@l[@i]", "@w[@i][@i]", "@a.g(@a, @l)", "@c.g(@a, (@l))", "cast<A>(@a)", "ask(@a)", "@c", "new A(@a, @i)", "(@a)"},
	'c': {"@a.b", "@a.b", "@c.e(@c)", "ask(@c)", "new B()", "cast<B>(@a)"},
	'l': {"@a.l", "@a.l", "@a.h(@l)", "@w[@i]", "@w[@i]", "ask(@l)", "new A[@i]", "cast<A[]>(@l)"},
	'w': {"@a.w", "@a.w", "new A[][@i]", "ask(@w)"},
}

// pick is one of some.
func (c *chance) pick(list ...string) string { return list[c.Intn(len(list))] }

// name is a local of a sort; empty, if there is none.
func (c *chance) name(sort byte) string {
	for _, i := range c.Perm(len(c.open)) {
		if l := c.open[i]; l.sort == sort {
			return l.name
		}
	}
	return ""
}

// value is a value of a sort.
func (c *chance) value(sort byte, deep int) string {
	if name := c.name(sort); name != "" && (deep <= 0 || c.Intn(2) == 0) && c.Intn(8) > 0 {
		return name
	}
	if sort == 'a' && c.class != "Main" && c.Intn(3) > 0 || sort == 'c' && c.class == "B" && c.Intn(2) == 0 {
		return "this"
	}
	shape := c.pick(shapes[sort]...)
	if deep <= 0 {
		shape = c.pick(least[sort]...)
	}
	if c.begins && strings.HasPrefix(shape, "new ") && !strings.Contains(shape, "[") {
		return "cast<" + types[sort] + ">(" + c.pick("this", "null", "this.a") + ")"
	}
	return c.made(shape, deep-1)
}

// made is what a shape is, with values in it; null of which something is asked, or that is held against something, is cast.
func (c *chance) made(shape string, deep int) string {
	text := ""
	for {
		ahead, behind, more := strings.Cut(shape, "@")
		text += ahead
		if !more {
			return text
		}
		value := c.value(behind[0], deep)
		if alone := strings.HasSuffix(text, " = ") || strings.HasSuffix(text, ", ") || behind[1:] != "" && behind[1] == ','; !alone && value == "null" {
			value = "cast<" + types[behind[0]] + ">(null)"
		}
		text += value
		shape = behind[1:]
	}
}

// block is a block of statements.
func (c *chance) block(deep, most int) string {
	outside := slices.Clip(c.open)
	text := "{ "
	for range c.Intn(most) {
		text += c.stat(deep)
	}
	c.open = outside
	return text + "} "
}

// stat is a statement.
func (c *chance) stat(deep int) string {
	sort := c.pick("a", "a", "a", "c", "l", "l", "w", "i", "b")[0]
	switch k := c.Intn(18); {
	case k < 3 && c.names < 5:
		c.names++
		l := local{"v" + strconv.Itoa(c.names), sort}
		text := types[sort] + " " + l.name + " = " + c.value(sort, 2) + "; "
		c.open = append(c.open, l)
		return text
	case k < 6:
		if name := c.name(sort); name != "" {
			return name + " = " + c.value(sort, 2) + "; "
		}
	case k < 9:
		return c.made(c.pick("@a.a = @a; ", "@a.n = @i; ", "@a.b = @c; ", "@c.c = @a; ", "@a.l = @l; ", "@l[@i] = @a; ", "@l[@i] = @c; ", "@w[@i] = @l; ", "@w[@i][@i] = @a; ", "@a.s = @a; "), 1)
	case k < 12:
		return c.made(c.pick("print(@i); ", "print(@b); ", "@a.f(@a, @i); ", "@a.g(@a, @l); ", "print(@a.n); ", "print(@l.length); ", "@a.v(@a, @l); "), 1)
	case k == 12 && c.loops > 0:
		return c.pick("break; ", "continue; ")
	case k == 13 && c.Intn(3) == 0:
		return c.back()
	case k < 16 && deep > 0:
		text := "if (" + c.value('b', 2) + ") " + c.block(deep-1, 5)
		if c.Intn(2) == 0 {
			text += "else " + c.block(deep-1, 4)
		}
		return text
	case k >= 16 && deep > 0:
		c.loops++
		text := "while (" + c.value('b', 2) + ") " + c.block(deep-1, 6)
		c.loops--
		return text
	}
	return ""
}

// back is a return.
func (c *chance) back() string {
	if c.answer == 0 {
		return "return; "
	}
	return "return " + c.value(c.answer, 1) + "; "
}

// body is a body of a method that answers a value of a sort (0: none), with parameters of sorts; what it begins with.
func (c *chance) body(class string, answer byte, params, begin string) string {
	c.class, c.open, c.names, c.loops, c.answer = class, nil, 0, 0, answer
	text := "("
	for i, sort := range []byte(params) {
		l := local{string(rune('p'+i)) + strings.ToLower(class), sort}
		text += ", "[:2*min(1, i)] + types[sort] + " " + l.name
		c.open = append(c.open, l)
	}
	c.begins = begin != "" && class != "Main"
	deep, most := 2, 6
	if begin != "" {
		deep, most = 1, 3
	}
	if class == "Main" {
		c.open = []local{{"x", 'a'}, {"y", 'c'}, {"z", 'l'}}
	}
	text += ") { " + c.made(begin, 1) + c.block(deep, most)
	if answer != 0 {
		text += c.back()
	}
	return text + "} "
}

// program is a whole one.
func (c *chance) program() string {
	text := "class A { int n; A a; A s; B b; A[] l; A[][] w; init" + c.body("A", 0, "ai", c.pick("this.a = @a; this.l = new A[3]; this.l[0] = pa; this.s = this; this.w = new A[][2]; this.w[0] = this.l; ", "this.l = new A[2]; this.s = pa; this.a = this; this.l[1] = this; ", "if (pa == null) { pa = this; } this.s = pa; this.a = pa; this.l = new A[4]; this.l[input()] = pa; "))
	text += "int f" + c.body("A", 'i', "ai", "") + "A g" + c.body("A", 'a', "al", "") + "A[] h" + c.body("A", 'l', "l", "") + "void v" + c.body("A", 0, "al", c.pick("", "print(pa.n); ", "while (qa == null) { qa = @l; } ", "qa[@i] = pa; ")) + "} "
	text += "class B extends A { A c; init" + c.body("B", 0, "", c.pick("super(this, @i); this.c = @a; ", "super(null, 1); this.c = this; this.b = this; "))
	text += "A g" + c.body("B", 'a', "al", "") + "B e" + c.body("B", 'c', "c", c.pick("", "pb.n = @i; ")) + "void v" + c.body("B", 0, "al", c.pick("", "print(pb.n + qb.length); ", "if (pb != null) { qb[0] = pb; } else { return; } ")) + "} "
	begin := "A x = new A(null, 1); B y = new B(); x = new A(y, 2); x.a = y; x.b = y; y.a = x; A[] z = new A[2]; z[0] = x; z[1] = y; x.l = z; "
	calls := []string{"if (input() > 1) { print(x.f(y, 1)); } ", "if (input() > 1) { x.v(x, z); } ", "if (input() > 1) { y.v(x, x.l); } ", "if (input() > 1) { x = y.g(x, z); } ", "if (input() > 1) { z = x.h(z); } ", "if (input() > 1) { y = y.e(y); } "}
	c.Shuffle(len(calls), func(i, k int) { calls[i], calls[k] = calls[k], calls[i] })
	return text + "class Main { int main" + c.body("Main", 'i', "", begin+strings.Join(calls[:3], "")) + "}"
}

// P28.1 to P28.3: of programs of all kinds each change has a cause that the document allows, and is told so.
func TestModel(t *testing.T) {
	c := &chance{Rand: rand.New(rand.NewSource(28))}
	kinds, whys, longest, none := map[int]int{}, map[int]int{}, 0, 0
	for i := range 60 {
		text := c.program()
		if i%4 == 0 { // with less that may be null
			text = strings.ReplaceAll(text, "ask", "")
		}
		text = strings.ReplaceAll(text, "; ", c.pick("; ", ";\n", ";\r\n\t"))
		p, f := plan.Make(text, true, i%3 > 0)
		if p == nil {
			t.Fatalf("%v: %s", f, text)
		}
		for _, cause := range hold(t, text, p, c.some(p.Changes())) {
			kinds[cause.Change.Kind]++
			longest = max(longest, len(cause.Steps))
			if len(cause.Steps) == 0 {
				none++
			}
			for _, s := range cause.Steps {
				whys[s.Why]++
			}
		}
	}
	if kinds[plan.Mark] < 500 || kinds[plan.Asked] < 500 || kinds[plan.Given] < 5 || kinds[plan.Wrapped] < 5 || kinds[plan.Wrapped+9] < 5 || longest < 6 || none < 50 {
		t.Errorf("%v, %d, %d", kinds, longest, none)
	}
	for _, why := range []int{strict.Flows, strict.Differ, strict.Unborn, strict.Empty, strict.Below} {
		if whys[why] < 50 {
			t.Errorf("%v", whys)
		}
	}
}

// some is changes, all or some of them, in another order or twice, and such as are of no plan.
func (c *chance) some(list []plan.Change) []plan.Change {
	if c.Intn(2) == 0 {
		return list
	}
	list = slices.DeleteFunc(list, func(plan.Change) bool { return c.Intn(3) == 0 })
	for range c.Intn(4) {
		again := list[c.Intn(len(list))]
		if c.Intn(2) == 0 {
			again.Kind, again.Text = c.Intn(2)*9+plan.Wrapped, c.pick("", "some(", "\"\n", "\x00\xff", "a\u00e4\u2028")
		}
		list = append(list, again)
	}
	if c.Intn(2) == 0 {
		c.Shuffle(len(list), func(i, k int) { list[i], list[k] = list[k], list[i] })
	}
	return list
}
