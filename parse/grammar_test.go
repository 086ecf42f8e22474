package parse

import (
	"math/rand"
	"slices"
	"strings"
	"testing"

	"caulker/api"
	"caulker/lex"
)

// The grammar as the document tells it, a rule a line: what it may be, each behind a bar. N is a name, I a number, F a float, T a text; what has no rule stands as it is.
const rules = `program = | program whole
whole = class N { members } | class N extends N { members }
members = | members member
member = type N ; | init params block | type N params block | void N params block
params = ( ) | ( paramlist )
paramlist = type N | paramlist , type N
type = Option < inner > | inner
inner = int | bool | double | str | N | inner ? | inner [ ]
block = { stats }
stats = | stats stat
stat = block | type N ; | type N = value ; | if ( value ) block | if ( value ) block else block | while ( value ) block
stat = break ; | continue ; | return ; | return value ; | print ( value ) ; | super args ; | value = value ; | value ;
args = ( ) | ( values )
values = value | values , value
value = v2 | value OR v2
v2 = v3 | v2 && v3
v3 = v4 | v3 == v4 | v3 != v4
v4 = v5 | v4 < v5 | v4 <= v5 | v4 > v5 | v4 >= v5 | v4 is some | v4 is none
v5 = v6 | v5 + v6 | v5 - v6
v6 = v7 | v6 * v7 | v6 / v7 | v6 % v7
v7 = v8 | ! v7 | - v7
v8 = v9 | v8 ! | v8 [ value ] | v8 . length | v8 . val | v8 . N | v8 . N args
v9 = I | F | T | true | false | null | none | this | N | ( value ) | input ( )
v9 = some ( value ) | ask ( value ) | toint ( value ) | todouble ( value ) | cast < type > ( value )
v9 = new inner args | new inner [ value ]`

// rule is one thing that a word of the grammar may be.
type rule struct {
	word string
	of   []string
}

// grammar are the rules, by their words.
type grammar map[string][]*rule

func newGrammar() grammar {
	g := grammar{}
	for _, line := range strings.Split(rules, "\n") {
		word, all, _ := strings.Cut(line, " =")
		for _, one := range strings.Split(all, "|") {
			r := &rule{word: word, of: strings.Fields(one)}
			for i, s := range r.of {
				r.of[i] = strings.ReplaceAll(s, "OR", "||")
			}
			g[word] = append(g[word], r)
		}
	}
	return g
}

// item is how far one has come in a rule that began with a token.
type item struct {
	rule *rule
	dot  int
	from int
}

// chart is all that the tokens so far may be, for each token.
type chart struct {
	grammar
	sets [][]item
}

// newChart is that of no tokens yet.
func newChart(g grammar) *chart {
	c := &chart{grammar: g, sets: [][]item{nil}}
	for _, r := range g["program"] {
		c.sets[0] = append(c.sets[0], item{r, 0, 0})
	}
	c.close()
	return c
}

// put lays an item in the last set, if it isn't in it.
func (c *chart) put(x item) {
	last := len(c.sets) - 1
	if !slices.Contains(c.sets[last], x) {
		c.sets[last] = append(c.sets[last], x)
	}
}

// close lays in the last set what follows of what is in it. What may be nothing is gone over at once.
func (c *chart) close() {
	last := len(c.sets) - 1
	for i := 0; i < len(c.sets[last]); i++ {
		x := c.sets[last][i]
		if x.dot == len(x.rule.of) {
			for _, y := range c.sets[x.from] {
				if y.dot < len(y.rule.of) && y.rule.of[y.dot] == x.rule.word {
					c.put(item{y.rule, y.dot + 1, y.from})
				}
			}
			continue
		}
		for _, r := range c.grammar[x.rule.of[x.dot]] {
			c.put(item{r, 0, last})
			if len(r.of) == 0 {
				c.put(item{x.rule, x.dot + 1, x.from})
			}
		}
	}
}

// terminal: may a token be what a rule wants?
func terminal(g grammar, want, word string) bool {
	switch want {
	case "N":
		return lex.Name(word)
	case "I":
		return word[0] >= '0' && word[0] <= '9' && !strings.Contains(word, ".")
	case "F":
		return word[0] >= '0' && word[0] <= '9' && strings.Contains(word, ".")
	case "T":
		return word[0] == '"'
	}
	return want == word && g[want] == nil
}

// next goes on with a token; false: it may not come here.
func (c *chart) next(word string) bool {
	last := c.sets[len(c.sets)-1]
	c.sets = append(c.sets, nil)
	for _, x := range last {
		if x.dot < len(x.rule.of) && terminal(c.grammar, x.rule.of[x.dot], word) {
			c.put(item{x.rule, x.dot + 1, x.from})
		}
	}
	c.close()
	if len(c.sets[len(c.sets)-1]) == 0 {
		c.back()
		return false
	}
	return true
}

// back takes back the last token.
func (c *chart) back() { c.sets = c.sets[:len(c.sets)-1] }

// whole: may the tokens end here?
func (c *chart) whole() bool {
	return slices.ContainsFunc(c.sets[len(c.sets)-1], func(x item) bool {
		return x.rule.word == "program" && x.dot == len(x.rule.of) && x.from == 0
	})
}

// faultOf is the fault of a wrong token, if the first `good` of some are right, a blank behind each. `void` and a name without a bracket behind are told at the `void`.
func faultOf(words []string, good int) api.Fault {
	if good >= 2 && words[good-2] == "void" {
		good -= 2
	}
	at := 0
	for _, word := range words[:good] {
		at += len(word) + 1
	}
	return api.Fault{Code: api.ErrToken, At: at}
}

// holdTokens holds what is told of some tokens to the grammar, of which the first `good` are right. True: another error was told, of what came up to there, or came first.
func holdTokens(t *testing.T, words []string, good int, whole bool) bool {
	t.Helper()
	text := strings.Join(words, " ") + " "
	_, f := Parse(text)
	want := faultOf(words, good)
	if good == len(words) && whole {
		want = api.Fault{}
	}
	if f == want {
		return false
	}
	if (f.Code == api.ErrMark || f.Code == api.ErrForm || f.Code == api.ErrPlace) && (f.At < want.At || want == api.Fault{}) {
		return true
	}
	t.Fatalf("%v, not %v, of %s", f, want, text)
	return false
}

// grow holds all texts to the grammar that begin with some tokens, and go on with at most so many of others: each of which a wrong one is the last.
func grow(t *testing.T, c *chart, words, others []string, more int) {
	t.Helper()
	for _, word := range others {
		ok := c.next(word)
		all := append(slices.Clip(words), word)
		good := len(words)
		if ok {
			good++
		}
		other := holdTokens(t, all, good, ok && c.whole())
		if ok {
			if more > 1 && !other {
				grow(t, c, all, others, more-1)
			}
			c.back()
		}
	}
}

// P8.1: the first wrong token is told, of all short texts of some tokens, behind several beginnings.
func TestGrammar(t *testing.T) {
	g := newGrammar()
	for _, x := range []struct {
		begin, others string
		more          int
	}{
		{"", "class A extends { } ; 1 init", 7},
		{"class A", "class A extends { } ; 1 init", 6},
		{"class A {", "A int void Option < > ? [ ] ; ( ) init , { } extends", 6},
		{"class A { A f (", "A int void Option < > ? [ ] ; ( ) , { }", 6},
		{"class A { init ( ) {", "A int Option < > ? [ ] ; = ( ) . ! 1 , { } void", 5},
		{"class A { init ( ) {", "a ? [ ] ; = ( ! }", 7},
		{"class A { init ( ) {", "if while else break continue return print super ( ) a { } ; this = , init class", 6},
		{"class A { init ( ) { a =", "a 1 \"s\" 1.5 is some none < == + - ! ( ) ; ] }", 5},
		{"class A { init ( ) { a =", "a is some + < && || * == ;", 8},
		{"class A { init ( ) { a =", "a . length val [ ] ( ) , ! ; f", 7},
		{"class A { init ( ) { a =", "new A int ? [ ] ( ) , 1 ; Option < > .", 6},
		{"class A { init ( ) { a =", "cast some ask toint todouble input Option int < > ( ) A ; ? >=", 7},
		{"class A { init ( ) { a =", "true false null none this some is super void ; . length = a else class", 5},
	} {
		words := strings.Fields(x.begin)
		c := newChart(g)
		for _, word := range words {
			if !c.next(word) {
				t.Fatal(x.begin)
			}
		}
		holdTokens(t, words, len(words), c.whole())
		grow(t, c, words, strings.Fields(x.others), x.more)
	}
}

// P8.1: likewise, of longer texts in which some tokens were changed.
func TestGrammarChanged(t *testing.T) {
	g := newGrammar()
	w := teller{Rand: rand.New(rand.NewSource(9))}
	wrong := 0
	for range 3000 {
		w.text, w.tokens, w.nodes = nil, nil, nil
		w.program()
		if len(w.tokens) == 0 || len(w.tokens) > 250 {
			continue
		}
		var words []string
		for _, s := range w.tokens {
			words = append(words, string(w.text[s.From:s.To]))
		}
		words = changed(&w, words)
		c := newChart(g)
		good := 0
		for good < len(words) && c.next(words[good]) {
			good++
		}
		if !c.whole() || good < len(words) {
			wrong++
		}
		holdTokens(t, words, good, c.whole())
	}
	if wrong < 1000 {
		t.Errorf("only %d are wrong", wrong)
	}
}

// changed is tokens of which one was left out, put in twice, changed with another one, or with one of the language's.
func changed(w *teller, words []string) []string {
	at, other := w.Intn(len(words)), w.Intn(len(words))
	switch w.Intn(4) {
	case 0:
		return slices.Delete(words, at, at+1)
	case 1:
		return slices.Insert(words, at, words[other])
	case 2:
		words[at], words[other] = words[other], words[at]
	case 3:
		words[at] = w.one("a", "1", "1.5", "\"\"", "(", ")", "{", "}", "[", "]", ";", ",", ".", "=", "<", ">", "?", "!", "-", "is", "some", "void", "Option", "int", "class", "init", "else", "if", "new")
	}
	return words
}
