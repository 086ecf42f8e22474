package migrate

import (
	"slices"
	"strconv"
	"strings"
	"testing"
	"unsafe"

	"caulker/api"
	"caulker/lex"
	"caulker/plan"
	"caulker/strict"
)

// P1: texts of all kinds.
func TestTexts(t *testing.T) {
	for text, want := range map[string]api.Fault{
		"": {Code: api.ErrMain}, "\x00": {Code: api.ErrSign}, "\xff": {Code: api.ErrSign}, "\"": {Code: api.ErrOpen}, "class": {Code: api.ErrToken, At: 5}, strings.Repeat(" ", 1<<16): {Code: api.ErrMain}, strings.Repeat("\xff", 1<<17): {Code: api.ErrLong}, main[:len(main)-2]: {Code: api.ErrToken, At: len(main) - 2}, main + main: {Code: api.ErrTwice, At: len(main)},
	} {
		for _, mode := range Modes() {
			refused(t, text, mode, want)
		}
	}
}

// padded is a text with blanks behind it, so many bytes in all.
func padded(text string, size int) string { return text + strings.Repeat(" ", size-len(text)) }

// P29.2: a text that is too long with its marks and guards, by a byte, two, or not; it is no matter that edits aren't found in texts that long where none are asked for.
func TestLong(t *testing.T) {
	text := main + "class A { A f; void g() { this.f.g(); } }"
	for left := range 4 {
		long := padded(text, 1<<16-left)
		for _, mode := range Modes() {
			mode.Guards = true
			if left < 2 {
				refused(t, long, mode, api.Fault{Code: api.ErrLong})
			} else if o := made(t, long, mode); len(o.Text) != len(long)+2 || o.counts() != [4]int{1, 1} {
				t.Errorf("%v: %d bytes", mode, len(o.Text))
			}
		}
	}
}

// P29.3: texts that are too long for the fewest bytes are refused, if options were made or checks left out, and only then.
func TestSides(t *testing.T) {
	wrapped := main + "class A { void g() { A a = null; if (a == null) { } } }"
	more := len(made(t, wrapped, Mode{Options: true}).Text) - len(wrapped)
	dead := main + "class A { A f; void g(A a) { if (a == null) { } } }"
	less := len(dead) - len(made(t, dead, Mode{Dead: true}).Text)
	if more < 5 || less < 2 {
		t.Fatal(more, less)
	}
	for _, x := range []struct {
		text    string
		size    int
		mode    Mode
		refused bool
	}{
		{wrapped, 16384 - more, Mode{Options: true}, false},
		{wrapped, 16385 - more, Mode{Options: true}, true},
		{wrapped, 16384, Mode{Options: true, Guards: true}, true},
		{wrapped, 16385, Mode{Dead: true}, false},
		{wrapped, 1<<16 - 1, Mode{Dead: true, Guards: true, Demands: true}, false},
		{dead, 16384, Mode{Dead: true}, false},
		{dead, 16385, Mode{Dead: true}, true},
		{dead, 16384 + less, Mode{Dead: true, Options: true}, true},
		{dead, 16385, Mode{Options: true}, false},
	} {
		text := padded(x.text, x.size)
		if x.refused {
			refused(t, text, x.mode, api.Fault{Code: api.ErrLong})
		} else if o := made(t, text, x.mode); o.Marks != 1 {
			t.Errorf("%v: %d marks", x.mode, o.Marks)
		}
	}
}

// P29.2: more edits than may be made.
func TestTooMany(t *testing.T) {
	fields := func(n int) string {
		text := ""
		for i := range n {
			text += "Main f" + strconv.Itoa(i) + "; "
		}
		return text
	}
	text := "class Main { int main() { return 1; } " + fields(62) + "Main g(Main a, Main b) { this.g(null, null); return null; } }"
	for i := range 63 {
		text += "class C" + strconv.Itoa(i) + " { " + fields(64) + "} "
	}
	p, f := plan.Make(text, false, false)
	if p == nil || len(p.Changes()) != 4097 {
		t.Fatal(f)
	}
	for number := range 4 {
		refused(t, text, Modes()[5*number], api.Fault{Code: api.ErrLong})
	}
}

// tokens is a program with fields of Main, of so many tokens.
func tokens(t *testing.T, fields string, n int) string {
	t.Helper()
	const end = "} int main() { return 1; } }"
	text := "class Main { " + fields + "void g() { " + strings.Repeat("print("+strings.Repeat("(", 9)+"1"+strings.Repeat(")", 9)+"); ", 600)
	list, _ := lex.Lex(text + end)
	rest := n - len(list) + 1
	if rest%2 == 1 {
		text += "int a; "
		rest -= 3
	}
	text += strings.Repeat("{}", rest/2) + end
	if list, _ = lex.Lex(text); len(list) != n+1 {
		t.Fatal(len(list))
	}
	return text
}

// P29.4: what was made has more tokens than may be: that is told where the first one too many is, in every mode.
func TestTokens(t *testing.T) {
	for _, x := range []struct{ fields, rest string }{{"Main m; ", "}"}, {"Main m; Main k; Main l; ", "; } }"}} {
		marks := strings.Count(x.fields, ";")
		text := tokens(t, x.fields, 16384)
		for _, mode := range Modes() {
			refused(t, text, mode, api.Fault{Code: api.ErrLost, At: len(text) + marks - len(x.rest)})
		}
		if o := made(t, tokens(t, x.fields, 16384-marks), Mode{}); o.Marks != marks {
			t.Errorf("%v", o.counts())
		}
	}
}

// P29.4: what was made has more nodes than may be: that is told where the first one too many begins.
func TestNodes(t *testing.T) {
	text := func(blocks int) string {
		return "class Main { Main m; int main() { this.m.main(); return this.m.main(); } } class B { void g() { " + strings.Repeat("print("+strings.Repeat("-", 50)+"1); ", 140) + strings.Repeat("{}", blocks) + " } }"
	}
	x, f := strict.Fits(text(0))
	if x == nil {
		t.Fatal(f)
	}
	fits := 8192 - 2 - x.Len() // so many blocks more are no more nodes than may be, with two guards
	if o := made(t, text(fits), Mode{Guards: true}); o.counts() != [4]int{1, 2} {
		t.Errorf("%v", o.counts())
	}
	for _, mode := range Modes() {
		mode.Guards = true
		refused(t, text(fits+1), mode, api.Fault{Code: api.ErrLost})
		refused(t, text(fits+2), mode, api.Fault{Code: api.ErrLost, At: strings.Index(text(0), "class B") + 3})
		refused(t, text(fits+3), mode, api.Fault{Code: api.ErrLong})
	}
}

// spoil changes all of a list, its spare room too.
func spoil[T any](list []T, to T) {
	for i := range list[:cap(list)] {
		list[:cap(list)][i] = to
	}
}

// told is all that an output tells, in memory of its own.
func told(o Output) string {
	text := o.Text + strings.Join(o.Trace, "\n")
	for _, e := range o.Edits {
		text += "\n" + strconv.Itoa(e.From) + "-" + strconv.Itoa(e.To) + e.Text
	}
	for _, n := range o.counts() {
		text += " " + strconv.Itoa(n)
	}
	return text
}

// P2: neither a text nor an output is kept or changed, and what is answered is new memory each time.
func TestMemory(t *testing.T) {
	for _, text := range []string{main, main + both[2].text, main + both[3].text, main + "class A { void g(A? a) { a!.g(a); } }"} {
		for _, mode := range Modes() {
			mode.Guards = true
			bytes := []byte(text)
			o, f := Migrate(unsafe.String(&bytes[0], len(bytes)), mode)
			again, _ := Migrate(text, mode)
			if f.Code != api.OK || string(bytes) != text {
				t.Fatal(f)
			}
			want := told(again)
			spoil(bytes, '-')
			spoil(again.Edits, api.Edit{Text: "x"})
			spoil(again.Trace, "x")
			if told(o) != want {
				t.Errorf("%v: %s, not %s", mode, told(o), want)
			}
			spoil(o.MarkPlaces(), 7)
			if told(o) != want {
				t.Errorf("%v: %s, not %s", mode, told(o), want)
			}
		}
	}
}

// P2: what the modes and the marks' places are is new memory each time.
func TestLists(t *testing.T) {
	want := Modes()
	spoil(Modes(), Mode{Dead: true})
	if got := Modes(); !slices.Equal(got, want) {
		t.Errorf("%v", got)
	}
	edits := []api.Edit{{Span: api.Span{From: 7, To: 7}, Text: "?"}, {Span: api.Span{From: 3, To: 3}, Text: "?"}, {Span: api.Span{From: 1, To: 1}, Text: "?"}}
	before := slices.Clone(edits)
	o := Output{Edits: edits[:2]}
	first, second := o.MarkPlaces(), o.MarkPlaces()
	spoil(second, 9)
	if !slices.Equal(edits, before) || !slices.Equal(first, []int{3, 7}) {
		t.Errorf("%v, %v", edits, first)
	}
}
