package eval

import (
	"math/rand"
	"slices"
	"strconv"
	"strings"
	"testing"

	"caulker/api"
	"caulker/base"
	"caulker/parse"
	"caulker/tree"
)

// chance makes programs in which nothing is wrong, the same ones each time.
type chance struct {
	*rand.Rand
	class  string // whose body is made
	names  int    // how many locals it has
	open   []local
	loops  int
	answer string // what it answers; none of an init
	rare   int    // one of how many values is a call
}

// local is one that may be named.
type local struct{ name, of string }

// sorts are the types of values.
var sorts = []string{"int", "bool", "double", "str", "A", "B", "Main", "int[]", "A[]", "Option<A>"}

// above are the classes that a class comes from, it itself first.
var above = map[string][]string{"Main": {"Main"}, "A": {"A"}, "B": {"B", "A"}, "C": {"C", "B", "A"}}

// fields are the own fields of a class.
var fields = map[string][]local{
	"Main": {{"n", "int"}, {"a", "A"}, {"b", "B"}, {"l", "int[]"}, {"k", "A[]"}, {"o", "Option<A>"}, {"s", "str"}, {"d", "double"}, {"t", "bool"}},
	"A":    {{"n", "int"}, {"a", "A"}, {"l", "int[]"}}, "B": {{"s", "str"}, {"o", "Option<A>"}, {"t", "bool"}}, "C": {{"k", "A[]"}, {"d", "double"}},
}

// method is one that a class has.
type method struct {
	name, answer string
	params       []string
}

// methods are the own methods of a class.
var methods = map[string][]method{
	"Main": {{"f", "int", []string{"int", "A"}}, {"g", "A", []string{"B", "int[]"}}, {"h", "void", []string{"bool"}}, {"x", "double", []string{"double", "str"}}, {"me", "Main", nil}, {"many", "A[]", []string{"int"}}},
	"A":    {{"f", "int", []string{"int", "A"}}, {"g", "A", nil}, {"h", "void", []string{"bool", "Option<A>", "Main"}}, {"l", "int[]", nil}}, "B": {{"f", "int", []string{"int", "A"}}, {"s", "str", []string{"str"}}, {"t", "bool", []string{"bool"}}},
	"C": {{"g", "A", nil}, {"o", "Option<A>", []string{"B"}}, {"t", "bool", []string{"bool"}}, {"u", "int", []string{"Main", "int"}}},
}

// pick is one of some.
func (c *chance) pick(list ...string) string { return list[c.Intn(len(list))] }

// block is a block of statements.
func (c *chance) block(deep int) string {
	outside := len(c.open)
	text := "{ "
	for range c.Intn(4) {
		text += c.stat(deep)
	}
	c.open = c.open[:outside]
	return text + "} "
}

// stat is a statement.
func (c *chance) stat(deep int) string {
	switch k := c.Intn(20); {
	case k < 5 && c.names < 50:
		of := c.pick(sorts...)
		c.names++
		name := "v" + strconv.Itoa(c.names)
		text := of + " " + name
		if c.Intn(10) > 0 {
			text += " = " + c.given(of, 2)
		}
		c.open = append(c.open, local{name, of})
		return text + "; "
	case k < 10:
		of := c.pick(sorts...)
		if to := c.target(of); to != "" {
			return to + " = " + c.given(of, 2) + "; "
		}
	case k < 12:
		return "print(" + c.value(c.pick(sorts[:4]...), 2) + "); "
	case k < 14 && c.Intn(c.rare) < 8:
		return c.pick(c.call("void", 2), c.call(c.pick("int", "A", "str"), 2), "new C()") + "; "
	case k == 14 && deep > 0:
		return c.block(deep - 1)
	case k < 17 && deep > 0:
		text := "if (" + c.value("bool", 2) + ") " + c.block(deep-1)
		if c.Intn(2) == 0 {
			text += "else " + c.block(deep-1)
		}
		return text
	case k == 17 && deep > 0 && c.loops < 2:
		c.loops++
		text := "while (" + c.value("bool", 2) + ") " + c.block(deep-1)
		c.loops--
		return text
	case k == 18 && c.loops > 0:
		return c.pick("break; ", "continue; ")
	case k == 19 && c.Intn(4) == 0:
		return c.back()
	}
	return ""
}

// given is a value that comes to a type: it may be null or none itself.
func (c *chance) given(of string, deep int) string {
	if !slices.Contains(sorts[:4], of) && c.Intn(20) == 0 {
		return c.pick("null", "none")
	}
	return c.value(of, deep)
}

// back is a return.
func (c *chance) back() string {
	if c.answer == "" || c.answer == "void" {
		return "return; "
	}
	return "return " + c.given(c.answer, 2) + "; "
}

// target is something of a type that may be assigned to; empty, if none was found.
func (c *chance) target(of string) string {
	if name := c.name(of, false); name != "" && c.Intn(2) == 0 {
		return name
	}
	if of == "int" || of == "A" {
		if c.Intn(3) == 0 {
			return c.value(of+"[]", 1) + "[" + c.value("int", 1) + "]"
		}
	}
	return c.field(of, 1)
}

// name is a local of a type, or of one that fits it; empty, if there is none.
func (c *chance) name(of string, fits bool) string {
	var list []string
	for _, l := range c.open {
		if l.of == of || fits && slices.Contains(above[l.of], of) {
			list = append(list, l.name)
		}
	}
	if len(list) == 0 {
		return ""
	}
	return c.pick(list...)
}

// field is a field of a type of some object; empty, if there is none.
func (c *chance) field(of string, deep int) string {
	var list []string
	for class, own := range fields {
		for _, f := range own {
			if f.of == of {
				list = append(list, class+" "+f.name)
			}
		}
	}
	if len(list) == 0 {
		return ""
	}
	slices.Sort(list)
	class, name, _ := strings.Cut(c.pick(list...), " ")
	return c.value(class, deep-1) + "." + name
}

// call is a call that answers a type; if none does, a new object.
func (c *chance) call(of string, deep int) string {
	type offer struct {
		class string
		method
	}
	var list []offer
	for _, class := range []string{"Main", "A", "B", "C"} {
		for _, m := range methods[class] {
			if m.answer == of {
				list = append(list, offer{class, m})
			}
		}
	}
	if len(list) == 0 {
		return c.small(of)
	}
	m := list[c.Intn(len(list))]
	var args []string
	for _, p := range m.params {
		args = append(args, c.given(p, deep-1))
	}
	return c.value(m.class, deep-1) + "." + m.name + "(" + strings.Join(args, ", ") + ")"
}

// fresh is a new object of a class.
func (c *chance) fresh(class string, deep int) string {
	if c.answer == "" && c.class != "Main" && c.Intn(8) > 0 { // else each object would make others
		return c.small(class)
	}
	if class == "A" && c.Intn(3) == 0 {
		return "new A(" + c.value("int", deep-1) + ", " + c.value("A", min(deep-1, 1)) + ")"
	}
	switch class {
	case "A":
		class = c.pick("B", "C")
	case "B":
		class = c.pick("B", "C")
	case "Main":
		return c.small(class)
	}
	return "new " + class + "()"
}

// value is a value of a type. What is made of others is put in brackets.
func (c *chance) value(of string, deep int) string {
	if deep <= 0 || c.Intn(4) == 0 {
		return c.small(of)
	}
	if c.Intn(c.rare) == 0 {
		return c.call(of, deep)
	}
	if field := c.field(of, deep); field != "" && c.Intn(4) == 0 {
		return field
	}
	switch of {
	case "int":
		return c.pick("("+c.two(of, deep, "+", "-", "*", "/", "%")+")", "(-"+c.value(of, deep-1)+")", "toint("+c.value("double", deep-1)+")", "input()", c.value("int[]", deep-1)+"["+c.value("int", deep-1)+"]", c.value(c.pick("A[]", "int[]"), deep-1)+".length")
	case "bool":
		x := c.pick("int", "double")
		y := c.pick(sorts[:9]...)
		return c.pick("("+c.two(of, deep, "&&", "||", "==", "!=")+")", "(!"+c.value(of, deep-1)+")", "("+c.two(x, deep, "<", "<=", ">", ">=")+")", "("+c.two(y, deep, "==", "!=")+")", "("+c.value("A", deep-1)+c.pick(" == ", " != ")+c.value("B", deep-1)+")", "("+c.value("A", deep-1)+c.pick(" == null)", " != null)"), c.is())
	case "double":
		return c.pick("("+c.two(of, deep, "+", "-", "*", "/")+")", "(-"+c.value(of, deep-1)+")", "todouble("+c.value("int", deep-1)+")")
	case "str":
		return "(" + c.two(of, deep, "+") + ")"
	case "int[]", "A[]":
		return c.pick("(new "+of[:len(of)-2]+"["+c.value("int", deep-1)+"])", c.value(of, deep-1)+"!", "ask("+c.value(of, deep-1)+")", "cast<"+of+">("+c.value(of, deep-1)+")")
	case "Option<A>":
		return c.pick("some("+c.value("A", deep-1)+")", "some("+c.value("B", deep-1)+")", "none", c.value("A", deep-1), "cast<Option<A>>("+c.value("B", deep-1)+")")
	}
	from := c.pick("A", of)
	if of == "Main" {
		from = of
	}
	made := []string{c.fresh(of, deep), c.fresh(of, deep), c.value(from, deep-1), "cast<" + of + ">(" + c.value(from, deep-1) + ")", "ask(" + c.value(of, deep-1) + ")", c.value(of, deep-1) + "!"}
	if from == "A" {
		made[2] = "cast<" + of + ">(" + c.value("A[]", deep-1) + "[" + c.value("int", deep-1) + "])"
		if name := c.name("Option<A>", false); name != "" {
			made[5] = "cast<" + of + ">(" + name + ".val)"
		}
	}
	if of != "Main" {
		made = append(made, "cast<C>("+c.value(from, deep-1)+")")
	}
	if c.Intn(3) > 0 { // what is asked for is often null
		made = slices.Delete(made, 4, 5)
	}
	return c.pick(made...)
}

// is asks an option.
func (c *chance) is() string {
	if name := c.name("Option<A>", false); name != "" {
		return "(" + name + c.pick(" is some)", " is none)")
	}
	return "true"
}

// two is a sign between two values of a type.
func (c *chance) two(of string, deep int, signs ...string) string {
	return c.value(of, deep-1) + " " + c.pick(signs...) + " " + c.value(of, deep-1)
}

// small is a value of a type that is made of few others.
func (c *chance) small(of string) string {
	if name := c.name(of, true); name != "" && c.Intn(4) > 0 {
		return name
	}
	switch of {
	case "int":
		if c.Intn(40) == 0 {
			return c.pick("9223372036854775807", "65536", "-1", "4000")
		}
		return c.pick("0", "1", "1", "2", "3", "input()", "this.n")
	case "bool":
		return c.pick("true", "false", "(input() > 0)")
	case "double":
		return c.pick("0.0", "1.5", "-2.25", "100000.0", "0.1")
	case "str":
		return c.pick(`""`, `"a"`, `"ab\n"`, `"abcdefghijklmnopqrstuvwxyz0123456789"`)
	case "int[]":
		return "(new int[" + c.pick("0", "1", "3", "4", "4", "4", "5", "2", "8", "70000") + "])"
	case "A[]":
		return "(new A[" + c.pick("1", "2", "4") + "])"
	case "Option<A>":
		return c.pick("none", "some("+c.small("A")+")", "some("+c.small("B")+")")
	}
	if slices.Contains(above[c.class], of) && c.Intn(3) > 0 {
		return "this"
	}
	if c.Intn(20) == 0 || c.answer == "" && c.class != "Main" && c.Intn(8) > 0 {
		return "cast<" + of + ">(null)"
	}
	if slices.Contains(above[of], c.class) && c.Intn(6) == 0 {
		return "cast<" + of + ">(this)"
	}
	return "new " + map[string]string{"A": c.pick("A(1, null)", "B()", "C()"), "B": c.pick("B()", "C()"), "C": "C()", "Main": "Main()"}[of]
}

// body is a body of a class, with its parameters.
func (c *chance) body(class, answer string, params []string, begin string) string {
	c.class, c.answer, c.names, c.loops, c.open, c.rare = class, answer, 0, 0, nil, 30
	statements := c.Intn(4)
	switch {
	case begin == "" && answer == "int" && len(params) == 0: // main
		c.rare, statements = 8, 2+c.Intn(10)
	case answer == "" && class != "Main":
		statements = c.Intn(2)
	}
	var list []string
	for i, p := range params {
		name := "p" + strconv.Itoa(i)
		c.open = append(c.open, local{name, p})
		list = append(list, p+" "+name)
	}
	text := "(" + strings.Join(list, ", ") + ") { " + begin
	for range statements {
		text += c.stat(3)
	}
	if answer != "" && answer != "void" {
		text += c.back()
	}
	return text + "} "
}

// program is a whole one.
func (c *chance) program() string {
	text := ""
	for _, class := range []string{"A", "B", "C", "Main"} {
		text += "class " + class + map[string]string{"B": " extends A", "C": " extends B"}[class] + " { "
		for _, f := range fields[class] {
			text += f.of + " " + f.name + "; "
		}
		switch class {
		case "A":
			text += "init" + c.body(class, "", []string{"int", "A"}, "this.n = p0; this.a = "+c.pick("this", "this", "p1")+"; this.l = new int[3]; ")
		case "B":
			text += "init" + c.body(class, "", nil, "super("+c.pick("1", "input()", "1")+", "+c.pick("null", "this", "null")+"); this.s = \"b\"; ")
		case "Main":
			text += "init" + c.body(class, "", nil, c.pick("this.a = new B(); ", "this.a = new C(); ")+"this.b = new C(); this.l = new int[4]; this.k = new A[2]; this.k[0] = this.b; this.o = some(this.a); ")
			text += "int main" + c.body(class, "int", nil, "")
		}
		for _, m := range methods[class] {
			text += m.answer + " " + m.name + c.body(class, m.answer, m.params, "")
		}
		text += "} "
	}
	return text
}

// known is a program, all of whose values have types.
func known(t *testing.T, text string) *base.Info {
	t.Helper()
	p, f := parse.Parse(text)
	if f != (api.Fault{}) {
		t.Fatalf("%v of %s", f, text)
	}
	x, f := base.Of(p)
	if x == nil {
		t.Fatalf("%v, at %s", f, text[f.At:])
	}
	return x
}

// numbers are some to be read.
func (c *chance) numbers() []int64 {
	var in []int64
	for range c.Intn(60) {
		in = append(in, int64(c.Intn(8)-1))
	}
	return in
}

// P16.1 to P16.5: programs of all kinds run as the document tells.
func TestModel(t *testing.T) {
	c := &chance{Rand: rand.New(rand.NewSource(16))}
	ends := map[[2]int]int{}
	kinds := map[int]int{}
	for range 1200 {
		x := known(t, c.program())
		for i := range x.Len() {
			kinds[x.Node(i).Kind]++
		}
		for range 3 {
			run := hold(t, x, c.numbers(), c.Intn(4000))
			ends[[2]int{run.End, int(run.Why)}]++
		}
	}
	for _, want := range [][2]int{{api.Done}, {api.NullFault}, {api.GuardFault}, {api.OutOfFuel}, {api.OtherFault, int(api.ErrRange)}, {api.OtherFault, int(api.ErrKind)}, {api.OtherFault, int(api.ErrDeep)}, {api.OtherFault, int(api.ErrLong)}} {
		if ends[want] < 40 {
			t.Errorf("%v: but %d times", want, ends[want])
		}
	}
	for kind := 1; kind < api.Kinds; kind++ {
		if kinds[kind] < 50 {
			t.Errorf("%s: but %d times", tree.Name(kind), kinds[kind])
		}
	}
}
