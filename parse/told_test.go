package parse

import (
	"math"
	"math/rand"
	"reflect"
	"strconv"
	"strings"
	"testing"

	"caulker/api"
)

// teller writes programs by chance, the same ones each time, and the nodes that the document tells of them.
type teller struct {
	*rand.Rand
	text   []byte
	tokens []api.Span
	nodes  []api.Node
	deep   int // how much more may be nested
}

// gap is what stands between two tokens; something, if they would be one else. Behind a `/` a comment would begin with that.
func (w *teller) gap(word string) string {
	gaps := []string{"\n", " ", "\t", "\r\n", " // x\n", "// if ( \"\n", "  //\n ", "//;\n//}\n"}
	if len(w.text) > 0 && w.text[len(w.text)-1] == '/' {
		gaps = gaps[:5]
	}
	if w.Intn(8) == 0 {
		return w.one(gaps...)
	}
	if len(w.text) == 0 || word == "" || !together(w.text[len(w.text)-1], word[0]) {
		return ""
	}
	return w.one(gaps[:5]...)
}

// together: may two bytes beside one another be of one token?
func together(a, b byte) bool {
	word := func(c byte) bool {
		return c == '_' || c >= '0' && c <= '9' || c >= 'a' && c <= 'z' || c >= 'A' && c <= 'Z'
	}
	return word(a) && word(b) || b == '=' && strings.IndexByte("=!<>", a) >= 0 || a == '/' && b == '/' || word(a) && b == '.' || a == '.' && word(b)
}

// put writes tokens.
func (w *teller) put(words ...string) {
	for _, word := range words {
		w.text = append(w.text, w.gap(word)...)
		from := len(w.text)
		w.text = append(w.text, word...)
		w.tokens = append(w.tokens, api.Span{From: from, To: len(w.text)})
	}
}

// since is from a token to the end of the last one.
func (w *teller) since(token int) api.Span {
	return api.Span{From: w.tokens[token].From, To: w.tokens[len(w.tokens)-1].To}
}

// add is the number of a node that begins with a token, and ends with the last one.
func (w *teller) add(token int, n api.Node, kids ...int) int {
	n.Kids = kids
	n.Span = w.since(token)
	w.nodes = append(w.nodes, n)
	return len(w.nodes) - 1
}

// here is the number of the next token.
func (w *teller) here() int { return len(w.tokens) }

// one is one of some words.
func (w *teller) one(words ...string) string { return words[w.Intn(len(words))] }

// name writes a name.
func (w *teller) name() string {
	s := w.one("a", "b", "A", "Main", "x9_", "_", "classy", "length_", "iff", "Some", strings.Repeat("w", 64))
	w.put(s)
	return s
}

// inner writes a type that is no option, with at most so many arrays; free: its last layer has no mark, but might.
func (w *teller) inner(dims int) (n api.Node, free bool) {
	from := w.here()
	free = w.Intn(2) == 0
	if free {
		n.Type = api.Type{Base: api.Class, Name: w.name()}
	} else {
		base := w.Intn(4)
		w.put([]string{"int", "bool", "double", "str"}[base])
		n.Type.Base = base + 1
	}
	for {
		n.Type.Marks += " "
		n.Ends = append(n.Ends, w.tokens[w.here()-1].To)
		if free && w.Intn(3) == 0 {
			w.put("?")
			n.Type.Marks = n.Type.Marks[:n.Type.Dims] + "?"
			free = false
		}
		if w.Intn(2) == 0 || n.Type.Dims == dims {
			n.Where = w.since(from)
			return n, free
		}
		w.put("[", "]")
		n.Type.Dims++
		free = true
	}
}

// typed writes a type.
func (w *teller) typed() api.Node {
	if w.Intn(4) > 0 {
		n, _ := w.inner(4)
		return n
	}
	from := w.here()
	w.put("Option", "<")
	n, free := w.inner(3)
	if !free {
		w.put("[", "]")
		n.Type.Dims++
		n.Type.Marks += " "
		n.Ends = append(n.Ends, w.tokens[w.here()-1].To)
	}
	w.put(">")
	n.Type.Marks = n.Type.Marks[:n.Type.Dims] + "o"
	n.Where = w.since(from)
	return n
}

// The signs between values, by how close they bind.
var levels = [][]string{{"||"}, {"&&"}, {"==", "!="}, {"<", "<=", ">", ">=", "is"}, {"+", "-"}, {"*", "/", "%"}}

// value writes a value of a level, or of a closer one.
func (w *teller) value(level int) int {
	from := w.here()
	if level == len(levels) {
		return w.signed()
	}
	if w.deep <= 0 || w.Intn(5) > 0 {
		return w.value(level + 1)
	}
	w.deep--
	first := w.value(level)
	sign := w.one(levels[level]...)
	w.put(sign)
	if sign == "is" {
		kind := []int{api.IsSome, api.IsNone}[w.Intn(2)]
		w.put(map[int]string{api.IsSome: "some", api.IsNone: "none"}[kind])
		return w.add(from, api.Node{Kind: kind}, first)
	}
	second := w.value(level + 1)
	return w.add(from, api.Node{Kind: api.Binary, Text: sign}, first, second)
}

// signed writes a value without signs between.
func (w *teller) signed() int {
	from := w.here()
	if w.Intn(6) > 0 {
		return w.asked(w.Intn(4))
	}
	kind := []int{api.Neg, api.Not}[w.Intn(2)]
	w.put(map[int]string{api.Neg: "-", api.Not: "!"}[kind])
	return w.add(from, api.Node{Kind: kind}, w.signed())
}

// asked writes a value without signs, of which something is asked so many times.
func (w *teller) asked(times int) int {
	from := w.here()
	if times == 0 || w.deep <= 0 {
		return w.first()
	}
	w.deep--
	of := w.asked(times - 1)
	switch w.Intn(6) {
	case 0:
		w.put("!")
		return w.add(from, api.Node{Kind: api.Guard}, of)
	case 1:
		w.put("[")
		at := w.value(0)
		w.put("]")
		return w.add(from, api.Node{Kind: api.Index}, of, at)
	case 2:
		w.put(".", "length")
		return w.add(from, api.Node{Kind: api.Length}, of)
	case 3:
		w.put(".", "val")
		return w.add(from, api.Node{Kind: api.Val}, of)
	case 4:
		w.put(".")
		return w.add(from, api.Node{Kind: api.Get, Text: w.name()}, of)
	}
	w.put(".")
	n := api.Node{Kind: api.Call, Text: w.name()}
	return w.add(from, n, append([]int{of}, w.args()...)...)
}

// args writes values in brackets.
func (w *teller) args() []int {
	w.put("(")
	var list []int
	for i := range w.Intn(4) {
		if i > 0 {
			w.put(",")
		}
		list = append(list, w.value(0))
	}
	w.put(")")
	return list
}

// bracketed writes a value in brackets.
func (w *teller) bracketed() int {
	w.put("(")
	n := w.value(0)
	w.put(")")
	return n
}

// The texts in quotes, and what they say.
var quotes = [][2]string{{`""`, ""}, {`"a b"`, "a b"}, {`"\n\t\"\\"`, "\n\t\"\\"}, {`"// if"`, "// if"}}

// first writes a value without signs of which nothing is asked.
func (w *teller) first() int {
	from := w.here()
	if w.deep > 0 && w.Intn(3) == 0 {
		w.deep--
		return w.larger(from)
	}
	switch w.Intn(9) {
	case 0:
		n := []int64{0, 1, 42, math.MaxInt64}[w.Intn(4)]
		w.put(strconv.FormatInt(n, 10))
		return w.add(from, api.Node{Kind: api.IntLit, N: n})
	case 1:
		text := w.one("0.0", "1.50", "3.14159265358979", "12345678901234.5", "0.1")
		x, _ := strconv.ParseFloat(text, 64)
		w.put(text)
		return w.add(from, api.Node{Kind: api.DoubleLit, Text: text, N: int64(math.Float64bits(x))})
	case 2:
		q := quotes[w.Intn(len(quotes))]
		w.put(q[0])
		return w.add(from, api.Node{Kind: api.StrLit, Text: q[1]})
	case 3:
		i := w.Intn(5)
		w.put([]string{"true", "false", "null", "none", "this"}[i])
		return w.add(from, []api.Node{{Kind: api.BoolLit, N: 1}, {Kind: api.BoolLit}, {Kind: api.NullLit}, {Kind: api.NoneLit}, {Kind: api.This}}[i])
	case 4:
		w.put("input", "(", ")")
		return w.add(from, api.Node{Kind: api.Input})
	}
	return w.add(from, api.Node{Kind: api.Var, Text: w.name()})
}

// larger writes a value that has values within.
func (w *teller) larger(from int) int {
	switch i := w.Intn(8); i {
	case 0, 1, 2, 3:
		w.put([]string{"some", "ask", "toint", "todouble"}[i])
		return w.add(from, api.Node{Kind: []int{api.Some, api.Ask, api.ToInt, api.ToDouble}[i]}, w.bracketed())
	case 4:
		w.put("cast", "<")
		n := w.typed()
		w.put(">")
		n.Kind = api.Cast
		return w.add(from, n, w.bracketed())
	case 5:
		w.put("new")
		at := w.here()
		n := api.Node{Kind: api.New, Type: api.Type{Base: api.Class, Name: w.name(), Marks: " "}}
		n.Where = w.tokens[at]
		n.Ends = []int{n.Where.To}
		return w.add(from, n, w.args()...)
	case 6:
		w.put("new")
		n, _ := w.inner(4)
		n.Kind = api.NewArray
		w.put("[")
		many := w.value(0)
		w.put("]")
		return w.add(from, n, many)
	}
	return w.bracketed()
}

// block writes statements in brackets.
func (w *teller) block() int {
	from := w.here()
	w.put("{")
	w.deep--
	var list []int
	for range w.Intn(4) {
		list = append(list, w.stat())
	}
	w.put("}")
	return w.add(from, api.Node{Kind: api.Block}, list...)
}

// stat writes a statement.
func (w *teller) stat() int {
	from := w.here()
	switch i := w.Intn(12); {
	case i == 0 && w.deep > 0:
		return w.block()
	case i == 1 && w.deep > 0:
		w.put("if")
		kids := []int{w.bracketed()}
		kids = append(kids, w.block())
		if w.Intn(2) == 0 {
			w.put("else")
			kids = append(kids, w.block())
		}
		return w.add(from, api.Node{Kind: api.If}, kids...)
	case i == 2 && w.deep > 0:
		w.put("while")
		cond := w.bracketed()
		return w.add(from, api.Node{Kind: api.While}, cond, w.block())
	}
	n := api.Node{}
	var kids []int
	switch w.Intn(8) {
	case 0:
		w.put("break")
		n.Kind = api.Break
	case 1:
		w.put("continue")
		n.Kind = api.Continue
	case 2:
		w.put("return")
		n.Kind = api.Return
		if w.Intn(2) == 0 {
			kids = []int{w.value(0)}
		}
	case 3:
		w.put("print")
		n.Kind, kids = api.Print, []int{w.bracketed()}
	case 4:
		w.put("super")
		n.Kind, kids = api.Super, w.args()
	case 5:
		n = w.typed()
		n.Kind, n.Text = api.Decl, w.name()
		if w.Intn(2) == 0 {
			w.put("=")
			kids = []int{w.value(0)}
		}
	case 6:
		n.Kind, kids = api.Assign, []int{w.wrapped(api.Var, api.Get, api.Index)}
		w.put("=")
		kids = append(kids, w.value(0))
	default:
		n.Kind, kids = api.Expr, []int{w.wrapped(api.Call, api.New)}
	}
	w.put(";")
	return w.add(from, n, kids...)
}

// wrapped writes a value of one of some kinds, perhaps in brackets: values until it is one.
func (w *teller) wrapped(kinds ...int) int {
	in := w.Intn(4) == 0
	if in {
		w.put("(")
	}
	text, tokens, nodes := len(w.text), w.here(), len(w.nodes)
	for {
		w.deep = max(w.deep, 2)
		n := w.asked(w.Intn(3))
		for _, kind := range kinds {
			if w.nodes[n].Kind == kind {
				if in {
					w.put(")")
				}
				return n
			}
		}
		w.text, w.tokens, w.nodes = w.text[:text], w.tokens[:tokens], w.nodes[:nodes]
	}
}

// params writes params in brackets.
func (w *teller) params() []int {
	w.put("(")
	var list []int
	for i := range w.Intn(4) {
		if i > 0 {
			w.put(",")
		}
		from := w.here()
		n := w.typed()
		n.Kind, n.Text = api.Param, w.name()
		list = append(list, w.add(from, n))
	}
	w.put(")")
	return list
}

// member writes a field, a method or an init.
func (w *teller) member() int {
	from := w.here()
	var n api.Node
	switch w.Intn(4) {
	case 0:
		n = w.typed()
		n.Kind, n.Text = api.Field, w.name()
		w.put(";")
		return w.add(from, n)
	case 1:
		w.put("init")
		n.Kind = api.Init
	case 2:
		w.put("void")
		n.Type, n.Where = api.Type{Base: api.Void, Marks: " "}, w.tokens[from]
		n.Ends = []int{n.Where.To}
		n.Kind, n.Text = api.Method, w.name()
	default:
		n = w.typed()
		n.Kind, n.Text = api.Method, w.name()
	}
	kids := w.params()
	return w.add(from, n, append(kids, w.block())...)
}

// program writes a program, and tells its nodes.
func (w *teller) program() api.Tree {
	var classes []int
	for range w.Intn(4) {
		from := w.here()
		w.put("class")
		n := api.Node{Kind: api.ClassOf, Text: w.name()}
		var kids []int
		if w.Intn(3) == 0 {
			at := w.here()
			w.put("extends")
			kids = []int{w.add(at, api.Node{Kind: api.Ancestor, Text: w.name()})}
		}
		w.put("{")
		for range w.Intn(5) {
			w.deep = w.Intn(12)
			kids = append(kids, w.member())
		}
		w.put("}")
		classes = append(classes, w.add(from, n, kids...))
	}
	root := api.Node{Kind: api.Program, Kids: classes}
	if len(classes) > 0 {
		root.Span = w.since(0)
	}
	w.text = append(w.text, w.gap("")...)
	w.nodes = append(w.nodes, root)
	return api.Tree{Nodes: w.nodes, Root: len(w.nodes) - 1}
}

// lean is a program whose empty lists are nil.
func lean(p api.Tree) api.Tree {
	for i, n := range p.Nodes {
		if len(n.Kids) == 0 {
			p.Nodes[i].Kids = nil
		}
		if len(n.Ends) == 0 {
			p.Nodes[i].Ends = nil
		}
	}
	return p
}

// P8.1, P8.3 to P8.6: programs of all kinds are read as what they were told to be, each node where it stands.
func TestTold(t *testing.T) {
	w := teller{Rand: rand.New(rand.NewSource(8))}
	seen := map[int]int{}
	for range 4000 {
		w.text, w.tokens, w.nodes = nil, nil, nil
		want := lean(w.program())
		got, f := Parse(string(w.text))
		if f != (api.Fault{}) {
			t.Fatalf("%v of %s", f, w.text)
		}
		if !reflect.DeepEqual(lean(got), want) {
			for i := range min(len(got.Nodes), len(want.Nodes)) {
				if !reflect.DeepEqual(got.Nodes[i], want.Nodes[i]) {
					t.Fatalf("%+v, not %+v, of %s", got.Nodes[i], want.Nodes[i], w.text)
				}
			}
			t.Fatalf("%d nodes, not %d, of %s", len(got.Nodes), len(want.Nodes), w.text)
		}
		for _, n := range want.Nodes {
			seen[n.Kind]++
		}
	}
	for kind := 1; kind < api.Kinds; kind++ {
		if seen[kind] < 100 {
			t.Errorf("%d of kind %d", seen[kind], kind)
		}
	}
}
