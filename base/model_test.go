package base

import (
	"math/rand"
	"slices"
	"strings"
	"testing"

	"caulker/api"
	"caulker/class"
	"caulker/kind"
	"caulker/parse"
	"caulker/scope"
	"caulker/tree"
)

// model is what the document says of a program's bodies: the first thing that is wrong is noted, and all goes on.
type model struct {
	api.Tree
	table  *class.Table
	bodies []Body
	types  map[int]api.Type
	wrong  api.Fault
}

// note notes what is wrong, if it is the first.
func (m *model) note(wrong bool, code api.Errno, at int) {
	if wrong && m.wrong.Code == api.OK {
		m.wrong = api.Fault{Code: code, At: m.Nodes[at].From}
	}
}

// modelOf is the model of a program, or of what is wrong with it.
func modelOf(p api.Tree) *model {
	m := &model{Tree: p, types: map[int]api.Type{}}
	if m.table, m.wrong = class.Of(p); m.table == nil {
		return m
	}
	for _, class := range p.Nodes[p.Root].Kids {
		for _, init := range []bool{false, true} {
			for _, at := range p.Nodes[class].Kids {
				n := p.Nodes[at]
				if n.Kind != api.Method && !init || n.Kind != api.Init && init {
					continue
				}
				s, f := scope.Of(p, at)
				if f.Code != api.OK {
					m.wrong = f
					return m
				}
				m.bodies = append(m.bodies, Body{Owner: p.Nodes[class].Text, Node: at, Init: init, Type: n.Type, Scope: s})
			}
		}
	}
	for _, b := range m.bodies {
		m.body(b)
	}
	return m
}

// body looks at one.
func (m *model) body(b Body) {
	n := m.Nodes[b.Node]
	for _, at := range n.Kids[:len(n.Kids)-1] {
		m.note(m.Nodes[at].Type.Base == api.Void, api.ErrKind, at)
	}
	block := m.Nodes[n.Kids[len(n.Kids)-1]]
	begun := false
	if chain := m.table.Chain(b.Owner); b.Init && len(chain) > 1 {
		if init, ok := m.table.Init(chain[1]); ok {
			if begun = len(block.Kids) > 0 && m.Nodes[block.Kids[0]].Kind == api.Super; begun {
				m.args(b, block.Kids[0], m.Nodes[block.Kids[0]].Kids, init.Params)
			}
			m.note(!begun, api.ErrPlace, b.Node)
		}
	}
	for i, at := range block.Kids {
		if i > 0 || !begun {
			m.stat(b, at, false)
		}
	}
}

// args are those of a node.
func (m *model) args(b Body, at int, list []int, params []api.Type) {
	m.note(len(list) != len(params), api.ErrArgs, at)
	for i, arg := range list {
		if i < len(params) {
			m.fit(b, arg, params[i])
		}
	}
}

// fit is a value that must fit a type.
func (m *model) fit(b Body, at int, t api.Type) {
	of := m.value(b, at)
	m.note(!m.table.Fits(of, t), api.ErrKind, at)
}

// must is a value that must be of one of these types.
func (m *model) must(b Body, at int, types string) api.Type {
	t := m.value(b, at)
	said := kind.Show(t)
	m.note(said == "" || !strings.Contains(" "+types+" ", " "+said+" "), api.ErrKind, at)
	return t
}

// stat is a statement; loop: a while stands around it.
func (m *model) stat(b Body, at int, loop bool) {
	n := m.Nodes[at]
	switch {
	case n.Kind == api.Block:
		for _, kid := range n.Kids {
			m.stat(b, kid, loop)
		}
	case n.Kind == api.Decl:
		m.note(n.Type.Base == api.Void, api.ErrKind, at)
		if len(n.Kids) == 1 {
			m.fit(b, n.Kids[0], n.Type)
		}
	case n.Kind == api.Assign:
		t := m.value(b, n.Kids[0])
		m.note(!slices.Contains([]int{api.Var, api.Get, api.Index}, m.Nodes[n.Kids[0]].Kind), api.ErrPlace, n.Kids[0])
		m.fit(b, n.Kids[1], t)
	case n.Kind == api.If || n.Kind == api.While:
		m.must(b, n.Kids[0], "bool")
		for _, kid := range n.Kids[1:] {
			m.note(m.Nodes[kid].Kind != api.Block, api.ErrPlace, kid)
			m.stat(b, kid, loop || n.Kind == api.While)
		}
	case n.Kind == api.Break || n.Kind == api.Continue:
		m.note(!loop, api.ErrPlace, at)
	case n.Kind == api.Return && len(n.Kids) == 1:
		m.note(b.Init || b.Type.Base == api.Void, api.ErrArgs, at)
		m.fit(b, n.Kids[0], b.Type)
	case n.Kind == api.Return:
		m.note(!b.Init && b.Type.Base != api.Void, api.ErrArgs, at)
	case n.Kind == api.Print:
		m.must(b, n.Kids[0], "int bool double str")
	case n.Kind == api.Expr:
		kid := m.Nodes[n.Kids[0]].Kind
		m.note(kid != api.Call && kid != api.New, api.ErrPlace, n.Kids[0])
		m.value(b, n.Kids[0])
	default:
		m.note(true, api.ErrPlace, at)
	}
}

// signs are the signs between two values, what these are, and what is made of them.
const signs = `+ int int > int, + double double > double, + str str > str, - int int > int, - double double > double, * int int > int, * double double > double, / int int > int, / double double > double, % int int > int,
< int int > bool, < double double > bool, <= int int > bool, <= double double > bool, > int int > bool, > double double > bool, >= int int > bool, >= double double > bool, && bool bool > bool, || bool bool > bool,
== int int > bool, == bool bool > bool, == double double > bool, == str str > bool, != int int > bool, != bool bool > bool, != double double > bool, != str str > bool,`

// plain is a base alone.
func plain(base int) api.Type { return api.Type{Base: base, Marks: " "} }

// named is a base alone, by its word.
func named(word string) api.Type {
	return plain(1 + slices.Index([]string{"int", "bool", "double", "str"}, word))
}

// refers is whether a type is of a class or an array; of the type of null, too.
func refers(t api.Type) bool {
	return t.Base == api.Null || tree.TypeText(t) != "" && (t.Dims > 0 || t.Base == api.Class)
}

// near is whether one type fits the other.
func (m *model) near(a, b api.Type) bool { return m.table.Fits(a, b) || m.table.Fits(b, a) }

// sign is what a Binary makes of two types.
func (m *model) sign(sign string, a, b api.Type) (api.Type, bool) {
	if sign == "==" || sign == "!=" {
		if refers(a) && refers(b) {
			return plain(api.Bool), a.Base == api.Null || b.Base == api.Null || m.near(a, b)
		}
	}
	_, behind, ok := strings.Cut("\n "+signs, " "+sign+" "+kind.Show(a)+" "+kind.Show(b)+" > ")
	if !ok {
		_, behind, ok = strings.Cut("\n"+signs, "\n"+sign+" "+kind.Show(a)+" "+kind.Show(b)+" > ")
	}
	word, _, _ := strings.Cut(behind, ",")
	return named(word), ok && kind.Show(a) != "" && !strings.Contains(sign, " ")
}

// value is a value's type, which is noted.
func (m *model) value(b Body, at int) api.Type {
	n := m.Nodes[at]
	kids := n.Kids
	var t api.Type
	switch n.Kind {
	case api.IntLit, api.Input:
		t = named("int")
	case api.DoubleLit:
		t = named("double")
	case api.BoolLit:
		t = named("bool")
	case api.StrLit:
		t = named("str")
	case api.NullLit:
		t = kind.Null()
	case api.NoneLit:
		t = kind.None()
	case api.This:
		t = api.Type{Base: api.Class, Name: b.Owner, Marks: " "}
	case api.Var:
		t = b.Scope.Locals()[b.Scope.Slot(at)].Type
	case api.ToInt:
		m.must(b, kids[0], "double")
		t = named("int")
	case api.ToDouble:
		m.must(b, kids[0], "int")
		t = named("double")
	case api.Not:
		t = m.must(b, kids[0], "bool")
	case api.Neg:
		t = m.must(b, kids[0], "int double")
	case api.Binary:
		left, right := m.value(b, kids[0]), m.value(b, kids[1])
		var ok bool
		t, ok = m.sign(n.Text, left, right)
		m.note(!ok, api.ErrKind, kids[1])
	default:
		t = m.greater(b, at, n)
	}
	m.types[at] = t
	return t
}

// greater is the type of values that refer to something, or ask it.
func (m *model) greater(b Body, at int, n api.Node) api.Type {
	var t api.Type
	if len(n.Kids) > 0 && n.Kind >= api.Get && n.Kind <= api.Call {
		t = m.value(b, n.Kids[0])
	}
	switch n.Kind {
	case api.Ask, api.Guard, api.Some, api.IsSome, api.IsNone, api.Val:
		m.note(n.Kind > api.Some && m.Nodes[n.Kids[0]].Kind != api.Var, api.ErrPlace, n.Kids[0])
		t = m.value(b, n.Kids[0])
		ok := refers(t) && t.Base != api.Null
		m.note(!ok, api.ErrKind, n.Kids[0])
		if ok {
			t.Marks = t.Marks[:len(t.Marks)-1] + map[int]string{api.Ask: "?", api.Some: "o"}[n.Kind]
			t.Marks += strings.Repeat(" ", t.Dims+1-len(t.Marks))
		}
		if n.Kind == api.IsSome || n.Kind == api.IsNone {
			t = named("bool")
		}
	case api.Get:
		m.note(t.Base != api.Class || t.Dims > 0, api.ErrKind, n.Kids[0])
		f, ok := m.table.Field(t.Name, n.Text)
		m.note(!ok, api.ErrMissing, at)
		t = f.Type
	case api.Call:
		m.note(t.Base != api.Class || t.Dims > 0, api.ErrKind, n.Kids[0])
		f, ok := m.table.Method(t.Name, n.Text)
		m.note(!ok, api.ErrMissing, at)
		m.args(b, at, n.Kids[1:], f.Params)
		t = f.Type
	case api.Index, api.Length:
		var e api.Errno
		t, e = kind.Elem(t)
		m.note(e != api.OK, api.ErrKind, n.Kids[0])
		if n.Kind == api.Length {
			return named("int")
		}
		m.must(b, n.Kids[1], "int")
	default:
		return m.made(b, at, n)
	}
	return t
}

// made is the type of what names one.
func (m *model) made(b Body, at int, n api.Node) api.Type {
	t := n.Type
	m.note(n.Kind < api.New || n.Kind > api.Cast, api.ErrPlace, at)
	m.note(t.Base == api.Void, api.ErrKind, at)
	switch n.Kind {
	case api.New:
		init, _ := m.table.Init(t.Name)
		if t.Base != api.Class {
			init.Params = nil
		}
		m.args(b, at, n.Kids, init.Params)
	case api.NewArray:
		m.must(b, n.Kids[0], "int")
		var e api.Errno
		t, e = kind.Array(t)
		m.note(e != api.OK, e, at)
	case api.Cast:
		of := m.value(b, n.Kids[0])
		m.note(!refers(of) || !refers(t) || !m.near(of, t), api.ErrKind, n.Kids[0])
	}
	return t
}

// hold holds what is told of a program to the model.
func hold(t *testing.T, p api.Tree) api.Fault {
	t.Helper()
	m := modelOf(p)
	x, f := Of(p)
	if f != m.wrong || (x != nil) != (f.Code == api.OK) {
		t.Fatalf("%v, not %v, of %s", f, m.wrong, tree.Form(p, p.Root))
	}
	if x == nil {
		return f
	}
	body := map[int]int{}
	for i, b := range x.Bodies() {
		if w := m.bodies[i]; b.Owner != w.Owner || b.Node != w.Node || b.Init != w.Init || b.Type != w.Type || !slices.Equal(b.Scope.Locals(), w.Scope.Locals()) {
			t.Fatalf("%d: %v, not %v", i, b, w)
		}
		for _, at := range tree.Walk(p, b.Node) {
			body[at] = 1 + i
		}
	}
	for i := -2; i < len(p.Nodes)+2; i++ {
		slot := -1
		if body[i] > 0 {
			slot = m.bodies[body[i]-1].Scope.Slot(i)
		}
		if x.Type(i) != m.types[i] || x.Within(i) != body[i]-1 || x.Slot(i) != slot {
			t.Fatalf("%d: %v %d %d, not %v, of %s", i, x.Type(i), x.Within(i), x.Slot(i), m.types[i], tree.Form(p, p.Root))
		}
		if value := i >= 0 && i < len(p.Nodes) && tree.Value(p.Nodes[i].Kind); value != (x.Type(i) != api.Type{}) {
			t.Fatalf("%d: %v, of %s", i, x.Type(i), tree.Form(p, p.Root))
		}
	}
	return f
}

// chance makes programs, the same ones each time.
type chance struct{ *rand.Rand }

// values are, by their types, what values are written of: between $ other values' types.
func values() map[string][]string {
	return map[string][]string{
		"int":       {"1", "i", "input()", "-$int$", "$int$ + $int$", "$int$ * $int$", "$int$ % $int$", "toint($double$)", "$A$.n", "$B$.two($int$, $double$)", "$A[]$.length", "$int[][]$[$int$][$int$]", "this.main()"},
		"double":    {"1.5", "d", "-$double$", "$double$ - $double$", "$double$ / $double$", "todouble($int$)"},
		"bool":      {"true", "b", "!$bool$", "$int$ < $int$", "$double$ >= $double$", "$bool$ && $bool$", "$int$ == $int$", "$str$ != $str$", "$A$ == $A$", "$B$ != $A$", "$A[]$ == null", "null == $D$", "o is some", "e is none", "$bool$ == $bool$"},
		"str":       {`"a"`, "s", "$str$ + $str$", "$B$.s"},
		"A":         {"a", "$B$", "new A($int$)", "$A[]$[$int$]", "cast<A>($A$)", "$A$!", "o.val", "cast<A>(null)", "$A$.a", "$A$.f($A$, $int$)", "ask($A$)", "some($A$)", "o"},
		"B":         {"e", "new B()", "new C()", "cast<B>($A$)", "$B?[]$[$int$]", "cast<C>($B$)", "e.val", "cast<B>(null)", "$B$!"},
		"A[]":       {"l", "new A[$int$]", "$A$.all", "$A[]$!", "cast<A[]>($A[]$)", "cast<A[]>(null)"},
		"B?[]":      {"m", "$A$.h()", "new B?[$int$]", "m!"},
		"int[][]":   {"w", "new int[][$int$]", "ask($int[][]$)"},
		"D":         {"k", "new D()", "cast<D>(null)"},
		"Option<A>": {"o", "some($A$)", "$B$.o"},
		"Main":      {"this", "new Main()"},
		"void":      {"$A$.g()"},
		"null":      {"null", "none"},
	}
}

// value is a value of a type, or, rarely, of another one.
func (c chance) value(of string, deep int) string {
	all := values()
	if c.Intn(300) == 0 {
		var types []string
		for t := range all {
			types = append(types, t)
		}
		slices.Sort(types)
		of = types[c.Intn(len(types))]
	}
	list := all[of]
	text := list[c.Intn(min(len(list), 1+deep*len(list)))]
	return "(" + c.fill(text, deep-1) + ")"
}

// fill puts values in the place of what stands between $.
func (c chance) fill(text string, deep int) string {
	before, behind, ok := strings.Cut(text, "$")
	if !ok {
		return text
	}
	of, behind, _ := strings.Cut(behind, "$")
	return before + c.value(of, max(deep, 0)) + c.fill(behind, deep)
}

// stat is a statement, in a loop or not.
func (c chance) stat(deep int, answers string) string {
	list := []string{"print($int$);", "print($str$ + $str$);", "i = $int$;", "e = $B$;", "$A$.n = $int$;", "$A[]$[$int$] = $A$;", "$A$.g();", "new A($int$);", "$A$.f($A$, $int$);", "l = $A[]$;", "m = $B?[]$;", "w[$int$][0] = $int$;", "o = $Option<A>$;", answers, answers, "d = $double$;"}
	if c.Intn(100) == 0 {
		list = []string{"break;", "continue;", "return;", "return $int$;", "super($int$);", "new A();", "new D($int$);", "$A$.x = $int$;", "$B$.two($int$);", "$A$.no();"}
	}
	if deep > 0 && c.Intn(3) == 0 {
		list = []string{"if ($bool$) {" + c.stat(deep-1, answers) + "}", "if ($bool$) {" + c.stat(deep-1, answers) + "} else {" + c.stat(deep-1, answers) + "}", "while ($bool$) {" + c.stat(deep-1, answers) + "break; continue; }", "{" + c.stat(deep-1, answers) + c.stat(deep-1, answers) + "}"}
	}
	return c.fill(list[c.Intn(len(list))], 2)
}

// program is a program in which most is right, or all.
func (c chance) program() string {
	params := "int i, double d, bool b, str s, A a, B? e, Option<A> o, A[] l, B?[]? m, int[][] w, D k"
	text := others + "class Main { int main() { return 1; } "
	for i, of := range []string{"int", "void", "A", "B?[]"}[:1+c.Intn(4)] {
		answers := strings.Replace("return $"+of+"$;", " $void$", "", 1)
		text += of + " f" + string(rune('0'+i)) + "(" + params + ") { " + c.stat(2, answers) + c.stat(2, answers) + c.fill(" A x = $A$; int[][] y = $int[][]$;", 2) + " } "
	}
	text += "} class X extends " + []string{"A", "B", "D"}[c.Intn(3)] + " { init(" + params + ") { "
	text += c.fill([]string{"super($int$);", "super();", "super();", ""}[c.Intn(4)], 2) + c.stat(2, "return;") + " } }"
	return text
}

// change changes a node at random, so that a program still may be.
func (c chance) change(p api.Tree) {
	was := tree.Clone(p)
	n := &p.Nodes[c.Intn(len(p.Nodes))]
	other := p.Nodes[c.Intn(len(p.Nodes))]
	switch c.Intn(4) {
	case 0:
		n.Kind = 1 + c.Intn(api.Kinds-1)
	case 1:
		n.Kind, n.Text, n.Type = other.Kind, other.Text, other.Type
	case 2:
		n.Text = other.Text
	case 3:
		n.Type = other.Type
		if c.Intn(3) == 0 {
			n.Type = api.Type{Base: api.Void, Marks: " "}
		}
	}
	if tree.Check(p) != api.OK {
		copy(p.Nodes, was.Nodes)
	}
}

// P13.1 to P13.5: programs of all kinds, right ones and wrong ones, read ones and raw ones, are told as the document tells of them.
func TestModel(t *testing.T) {
	c := chance{rand.New(rand.NewSource(13))}
	told := map[api.Errno]int{}
	for range 800 {
		text := c.program()
		p, f := parse.Parse(text)
		if f.Code != api.OK {
			t.Fatalf("%v of %s", f, text)
		}
		told[hold(t, p).Code]++
		for range 3 {
			for range 1 + c.Intn(3) {
				c.change(p)
			}
			told[hold(t, p).Code]++
		}
	}
	for _, code := range []api.Errno{api.OK, api.ErrPlace, api.ErrKind, api.ErrMissing, api.ErrArgs} {
		if told[code] < 150 {
			t.Errorf("%d: but %d times", code, told[code])
		}
	}
}
