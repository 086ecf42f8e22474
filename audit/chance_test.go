package audit

import (
	"math/rand"
	"slices"
	"strconv"
	"strings"
	"testing"

	"caulker/api"
	"caulker/migrate"
)

// chance makes programs without marks, the same ones each time.
type chance struct {
	*rand.Rand
	names int
	quiet bool // whether mostly nothing is asked that may be null
}

// holes are what may stand in the place of a letter; first what is made of nothing else. A ~ is a new name, the same one all through a shape.
var holes = map[byte][]string{
	'#': {"a", "b", "c"},                                                                                               // a local
	'@': {"this", "a", "b", "(c)", "this.m", "this.k", "ask(#)", "@.m", "@.g(?, ?)", "cast<A>(@)", "this.l[input()]"},  // what is asked
	'?': {"b", "null", "a", "c", "@", "new A(a)", "new B(@)"},                                                          // an A
	'^': {"input() > 0", "# == null", "# != null", "null == #", "(#) != null", "^ && ^", "(^ || ^)", "!(^)", "@ == @"}, // a condition
	'$': {"", "# = ?; ", "this.m = ?; ", "this.k = ?; ", "@.n = @.n + 1; ", "print(@.n); ", "this.h(?); ", "this.l = new A[2]; ", "this.l[1] = ?; ", // a statement
		"if (^) { $} else { $} ", "while (input() > 1 && ^) { $$break; } ", "print(@.d(#)); #.n = 2; ", "A ~ = null; if (^) { ~ = this; } if (~ != null) { ~.n = 3; $} ", "A ~ = this; if (null == ~) { $} "},
}

// made is what a shape is, with what stands in its holes.
func (c *chance) made(shape string, deep int) string {
	c.names++
	own := "u" + strconv.Itoa(c.names)
	text := ""
	if c.quiet {
		shape = strings.ReplaceAll(strings.ReplaceAll(shape, "#.n", "this.n"), "@", "this")
	}
	for _, b := range []byte(shape) {
		list, hole := holes[b]
		switch {
		case b == '~':
			text += own
		case !hole:
			text += string(b)
		case deep <= 0:
			text += list[0]
		default:
			text += c.made(list[c.Intn(len(list))], deep-1)
		}
	}
	return text
}

// program is a whole one.
func (c *chance) program() string {
	begins := []string{"this.m = ?; this.k = a; this.l = new A[3]; ", "this.k = this; this.m = a; ", "this.k = a; "}
	return c.made("class A { int n; A m; A k; A[] l; init(A a) { A b = a; A c = null; "+begins[c.Intn(3)]+"} ", 1) +
		c.made("A g(A a, A b) { A c = ask(b); c = ?; $$$return ?; } void h(A a) { A b = ask(a); A c = this; b = ?; $$$$} int d(A a) { A b = null; A c = a; b = ?; $return #.n; } } ", 3) +
		c.made("class B extends A { init(A a) { super(a); } A g(A a, A b) { A c = null; $$return this; } } ", 3) +
		c.made("class Main { int main() { A a = new A(null); A b = new B(a); A c = ask(a); a.m = b; a.k = a; if (input() > 0) { a.h(c); } if (input() > 0) { b.h(a); } if (input() > 0) { print(b.d(c)); } return b.n; } }", 0)
}

// P30.4: what comes of programs of all kinds is fine, in every mode, with all kinds of runs.
func TestChance(t *testing.T) {
	c := &chance{Rand: rand.New(rand.NewSource(30))}
	var sum [4]int
	refused := 0
	for i := range 12 {
		c.quiet = i%2 == 0
		text := c.program()
		for _, mode := range migrate.Modes() {
			var in []int64
			for range c.Intn(30) {
				in = append(in, int64(c.Intn(3)))
			}
			if k := Look(text, mode, in, c.Intn(c.Intn(1000)+1)); k != Fine {
				t.Fatalf("%v: %d, with %v: %s", mode, k, in, text)
			}
			o, f := migrate.Migrate(text, mode)
			if f.Code == api.ErrGuard {
				refused++
			} else if f.Code != api.OK {
				t.Fatalf("%v, at %s", f, text[f.At:])
			}
			for i, n := range []int{o.Marks, o.Guards, o.Options, o.Checks} {
				sum[i] += n
			}
		}
	}
	if slices.Min(sum[:]) < 30 || refused < 20 || refused > 80 {
		t.Errorf("%v, %d refused", sum, refused)
	}
}

// P30.3, P30.4: of each program that is migrated any edit that is left out is missed, and any blank is not.
func TestChanceMinimal(t *testing.T) {
	c := &chance{Rand: rand.New(rand.NewSource(303))}
	for range 15 {
		text := c.program()
		mode := migrate.Mode{Guards: true, Demands: c.Intn(2) == 0}
		o, f := migrate.Migrate(text, mode)
		if f.Code != api.OK {
			t.Fatalf("%v: %s", f, text)
		}
		a := answer{text: text, mode: mode, out: o, fuel: 100}
		if !Minimal(text, o.Edits...) || a.found() != Fine {
			t.Fatalf("%v: %s", o.Edits, text)
		}
		k := c.Intn(len(o.Edits))
		a.out.Edits = slices.Concat(o.Edits[:k], o.Edits[k+1:])
		if a.with().found() != Wrong {
			t.Fatalf("without %d of %v: %s", k, o.Edits, text)
		}
		a.out.Edits = o.Edits
		at := strings.LastIndexByte(text[:1+c.Intn(len(text))], ' ')
		if a.with(put(max(at, 0), max(at, 0), " ")).found() != Idle {
			t.Fatalf("a blank at %d with %v: %s", at, o.Edits, text)
		}
	}
}
