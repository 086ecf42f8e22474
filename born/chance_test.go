package born

import (
	"math/rand"
	"slices"
	"strconv"
	"strings"
	"testing"

	"caulker/api"
	"caulker/base"
	"caulker/eval"
	"caulker/parse"
)

// chance makes programs, the same ones each time.
type chance struct {
	*rand.Rand
	looks  bool     // whether fields are only given objects, and whatever reads one prints whether it is null
	name   string   // the class
	fields []string // those that it has
	own    []string // those of them that are its own
	names  int
	loops  int
}

// parents are the classes of a program, each with the one that it comes from.
var parents = []struct{ name, from string }{{"A", ""}, {"B", "A"}, {"C", "B"}, {"D", "A"}, {"F", "D"}}

// pick is one of some.
func (c *chance) pick(list ...string) string { return list[c.Intn(len(list))] }

// field is a field, most often an own one; empty, if there is none.
func (c *chance) field() string {
	switch {
	case len(c.own) > 0 && c.Intn(5) > 0:
		return c.pick(c.own...)
	case len(c.fields) > 0:
		return c.pick(c.fields...)
	}
	return ""
}

// read is a value that a field has.
func (c *chance) read() string {
	if f := c.field(); f != "" {
		return c.pick("this.", "this.", "this.", "(this).", "cast<"+c.name+">(o).") + f
	}
	return "o"
}

// value is an object.
func (c *chance) value() string {
	if c.looks {
		return c.pick("o", "new E()")
	}
	return c.pick("o", "o", "o", "null", "this", c.read(), c.read(), "o.it("+c.read()+")", "cast<A>("+c.read()+")", "ask("+c.read()+")", c.read()+"!", "this!", "this.it(o)")
}

// truth is a condition.
func (c *chance) truth() string {
	if c.looks {
		return c.pick("input() > 0", "p", "input() > 1", "true")
	}
	return c.pick("p", "p", "p", "input() > 0", c.read()+" == null", "this == o", "!("+c.read()+" != "+c.read()+")", "p && "+c.read()+" == null", "p || null != this", "true")
}

// block is a block of statements.
func (c *chance) block(deep, most int) string {
	text := "{ "
	for range c.Intn(most) {
		text += c.stat(deep)
	}
	return text + "} "
}

// look prints whether a field is null.
func look(name, of string) string {
	return "print(\"" + name + "\"); print(" + of + name + " == null); "
}

// stat is a statement.
func (c *chance) stat(deep int) string {
	f := c.field()
	switch k := c.Intn(20); {
	case k < 8 && f != "":
		return c.pick("this.", "this.", "this.", "(this).") + f + " = " + c.value() + "; "
	case k < 10 && f != "":
		if c.looks {
			return look(f, "this.")
		}
		return c.pick("print("+c.read()+" == null); ", "cast<"+c.name+">(this."+f+")."+c.field()+" = o; ", "cast<"+c.name+">(o)."+f+" = "+c.value()+"; ", "cast<"+c.name+">(this)."+f+" = o; ")
	case k == 10 && c.Intn(3) == 0:
		c.names++
		return c.pick("this.show(); ", "if (p) { this.show(); } ", "this.see(this); ", "A t"+strconv.Itoa(c.names)+" = this; ")
	case k == 11 && c.loops > 0:
		return c.pick("break; ", "continue; ")
	case k == 12 && c.Intn(2) == 0:
		return c.pick("return; ", "if ("+c.truth()+") { return; } ")
	case k < 16 && deep > 0:
		text := "if (" + c.truth() + ") " + c.block(deep-1, 5)
		if c.Intn(3) > 0 {
			text += "else " + c.block(deep-1, 5)
		}
		return text
	case k >= 16 && k < 18 && deep > 0:
		c.loops++
		text := "while (" + c.truth() + ") " + c.block(deep-1, 6)
		c.loops--
		return text
	case k == 18 && deep > 0:
		return c.block(deep-1, 4)
	}
	return ""
}

// super begins an init as the ancestor's does.
func (c *chance) super() string {
	f := c.field()
	if f == "" || c.Intn(3) > 0 {
		return "super(\"\", p, o); "
	}
	return c.pick("super(\""+f+"\", this."+f+" == null, o); ", "super(\"\", this.shown(), o); ", "super(\"\", p, o); ")
}

// class is a class, with a method that shows all of its fields, and perhaps an init; whether it or an ancestor has one.
func (c *chance) class(name, from string, begun bool) (string, bool) {
	of := map[bool]string{true: "E", false: "A"}[c.looks]
	text := "class " + name + map[bool]string{true: "", false: " extends " + from}[from == ""] + " { "
	c.name, c.own = name, nil
	for i := range c.Intn(4) {
		f := strings.ToLower(name) + strconv.Itoa(i)
		c.own = append(c.own, f)
		text += of + " " + f + "; "
	}
	c.fields = append(c.fields, c.own...)
	text += "void show() { "
	for _, f := range c.fields {
		text += look(f, "this.")
	}
	text += "} "
	if from == "" {
		text += "bool shown() { this.show(); return true; } void see(A x) { x.show(); } A it(A x) { return x; } "
	}
	if c.Intn(4) == 0 {
		return text + "} ", begun
	}
	c.loops = 0
	text += "init(str s, bool p, " + of + " o) { "
	if begun {
		text += c.super()
	}
	text += "if (s != \"\") { print(s); print(p); } " + strings.TrimPrefix(c.block(3, 12), "{")
	return text + "} ", true
}

// program is a whole one.
func (c *chance) program() string {
	fields, begun, text, made := map[string][]string{}, map[string]bool{}, "", ""
	for _, k := range parents {
		c.fields = slices.Clone(fields[k.from])
		var more string
		more, begun[k.name] = c.class(k.name, k.from, begun[k.from])
		text += more
		fields[k.name] = c.fields
		args := ""
		if begun[k.name] {
			args = "\"\", input() > 0, " + map[bool]string{true: "new E()", false: "null"}[c.looks]
		}
		made += "new " + k.name + "(" + args + ").show(); "
	}
	return text + "class E { } class Main { int main() { while (input() < 3) { " + made + " } return 1; } }"
}

// P19.1 to P19.4: how objects of programs of all kinds begin is told as the document tells.
func TestModel(t *testing.T) {
	c := &chance{Rand: rand.New(rand.NewSource(19))}
	told := map[int]int{}
	for range 700 {
		for why, n := range hold(t, known(t, c.program())) {
			told[why] += n
		}
	}
	for why := NoInit; why <= Above; why++ {
		if told[why] < 300 {
			t.Errorf("%s: but %d times", words[why], told[why])
		}
	}
}

// P19.5: a field of which nothing is told is never seen without a value.
func TestRuns(t *testing.T) {
	c := &chance{Rand: rand.New(rand.NewSource(91)), looks: true}
	seen := map[[2]bool]int{}
	for range 500 {
		text := c.program()
		x := known(t, text)
		hold(t, x)
		r, late := Look(x), map[string]bool{}
		for node := range x.Len() {
			if n := x.Node(node); n.Kind == api.Field {
				late[n.Text] = r.Is(node)
			}
		}
		for range 4 {
			var in []int64
			for range c.Intn(40) {
				in = append(in, int64(c.Intn(4)))
			}
			out := eval.Run(x, in, 3000).Out
			for i := 0; i+1 < len(out); i += 2 {
				null := out[i+1].N == 1
				seen[[2]bool{late[out[i].S], null}]++
				if null && !late[out[i].S] {
					t.Fatalf("%s, of %s, with %v", out[i].S, text, in)
				}
			}
		}
	}
	for _, what := range [][2]bool{{false, false}, {true, false}, {true, true}} {
		if seen[what] < 2000 {
			t.Errorf("%v: but %d times", what, seen[what])
		}
	}
}

// P19.1 to P19.4: whatever numbers a program's nodes have.
func TestMixed(t *testing.T) {
	c := &chance{Rand: rand.New(rand.NewSource(20))}
	for range 100 {
		p, f := parse.Parse(c.program())
		if f != (api.Fault{}) {
			t.Fatal(f)
		}
		x, _ := base.Of(c.mixed(p))
		if x == nil {
			t.Fatal("mixed")
		}
		hold(t, x)
	}
}

// mixed is a program whose nodes have other numbers, each still behind those that it is made of.
func (c *chance) mixed(p api.Tree) api.Tree {
	var nodes []api.Node
	var grow func(at int) int
	grow = func(at int) int {
		n := p.Nodes[at]
		kids := slices.Clone(n.Kids)
		for _, i := range c.Perm(len(kids)) {
			kids[i] = grow(n.Kids[i])
		}
		n.Kids = kids
		nodes = append(nodes, n)
		return len(nodes) - 1
	}
	return api.Tree{Root: grow(p.Root), Nodes: nodes}
}
