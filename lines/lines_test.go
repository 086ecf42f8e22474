package lines

import (
	"math"
	"slices"
	"strings"
	"testing"
	"unsafe"

	"caulker/api"
)

// texts have line ends, returns and tabs wherever they may stand.
var texts = []string{
	"", "a", "\n", "\r", "\r\n", "\n\r", "\r\r\n", "\n\n", "a\n", "a\r\n", "\ra\n", "\na", "ab\r\ncde",
	"one\n\ttwo\r\n\nfour", "a\rb\n\rc\r", "\t\tx\ty\n \tz\r\n\r\n\r", "\xff\xc3\n\xc3\xa4\x00b\n",
}

// wild are numbers around each bound, and those whose sums and differences wrap round.
var wild = []int{math.MinInt, math.MinInt + 1, -65537, -1, 0, 1, 2, 65535, 65536, 65537, math.MaxInt - 1, math.MaxInt}

func sp(from, to int) api.Span { return api.Span{From: from, To: to} }

func table(t *testing.T, text string) *Table {
	t.Helper()
	x, e := Of(text)
	if x == nil || e != api.OK {
		t.Fatalf("Of %q: %v", text, e)
	}
	return x
}

// placeOf goes from the text's beginning on to a byte, and counts.
func placeOf(text string, at int) Place {
	p := Place{1, 1}
	for _, c := range []byte(text[:at]) {
		p.Col++
		if c == '\n' {
			p = Place{p.Line + 1, 1}
		}
	}
	return p
}

// bare is a line without its end.
func bare(line string) string {
	if s, ok := strings.CutSuffix(line, "\r\n"); ok {
		return s
	}
	return strings.TrimSuffix(line, "\n")
}

// P2.1
func TestOf(t *testing.T) {
	for _, text := range texts {
		x := table(t, text)
		if want := len(strings.SplitAfter(text, "\n")); x.Lines() != want {
			t.Errorf("Lines of %q: %d, not %d", text, x.Lines(), want)
		}
	}
	if table(t, strings.Repeat("\n", 65536)).Lines() != 65537 {
		t.Error("Lines of the longest text")
	}
	if table(t, strings.Repeat("x", 65536)).Lines() != 1 {
		t.Error("Lines of the longest line")
	}
	for _, n := range []int{65537, 200000} {
		if x, e := Of(strings.Repeat("\n", n)); x != nil || e != api.ErrLong {
			t.Errorf("Of %d bytes: %v", n, e)
		}
	}
}

// P2.2
func TestAt(t *testing.T) {
	for _, text := range texts {
		x := table(t, text)
		for at := range len(text) + 1 {
			if p, e := x.At(at); e != api.OK || p != placeOf(text, at) {
				t.Errorf("At %d of %q: %v %v", at, text, p, e)
			}
		}
		for _, at := range append([]int{len(text) + 1}, wild...) {
			if at >= 0 && at <= len(text) {
				continue
			}
			if p, e := x.At(at); e != api.ErrRange || p != (Place{}) {
				t.Errorf("At %d of %q: %v %v", at, text, p, e)
			}
		}
	}
	long := table(t, strings.Repeat("ab\n", 21845)+"c")
	if p, e := long.At(65536); e != api.OK || p != (Place{21846, 2}) {
		t.Errorf("At the longest text's end: %v %v", p, e)
	}
}

// P2.2: a place has the byte that has it in At, and no other place has one.
func TestByte(t *testing.T) {
	for _, text := range texts {
		x := table(t, text)
		has := map[Place]int{}
		for at := range len(text) + 1 {
			has[placeOf(text, at)] = at
		}
		tried := wild
		for n := -1; n <= len(text)+3; n++ {
			tried = append(tried[:len(tried):len(tried)], n)
		}
		for _, line := range tried {
			for _, col := range tried {
				p := Place{line, col}
				want, ok := has[p]
				wantE := api.OK
				if !ok {
					wantE = api.ErrRange
				}
				if at, e := x.Byte(p); at != want || e != wantE {
					t.Errorf("Byte %v of %q: %d %v, not %d %v", p, text, at, e, want, wantE)
				}
			}
		}
	}
}

// P2.3
func TestLineText(t *testing.T) {
	for _, text := range texts {
		x := table(t, text)
		from := 0
		all := strings.SplitAfter(text, "\n")
		for i, line := range all {
			want := bare(line)
			if s, e := x.Line(i + 1); e != api.OK || s != sp(from, from+len(want)) {
				t.Errorf("Line %d of %q: %v %v", i+1, text, s, e)
			}
			if s, e := x.Text(i + 1); e != api.OK || s != want {
				t.Errorf("Text %d of %q: %q %v", i+1, text, s, e)
			}
			from += len(line)
		}
		for _, n := range append([]int{len(all) + 1}, wild...) {
			if n >= 1 && n <= len(all) {
				continue
			}
			if s, e := x.Line(n); e != api.ErrRange || s != (api.Span{}) {
				t.Errorf("Line %d of %q: %v %v", n, text, s, e)
			}
			if s, e := x.Text(n); e != api.ErrRange || s != "" {
				t.Errorf("Text %d of %q: %q %v", n, text, s, e)
			}
		}
	}
}

// P2.3: only the one return that stands right ahead of a line end goes with it.
func TestReturns(t *testing.T) {
	x := table(t, "a\rb\r\r\n\r\n\n\rc\r")
	for i, want := range []string{"a\rb\r", "", "", "\rc\r"} {
		if s, e := x.Text(i + 1); e != api.OK || s != want {
			t.Errorf("Text %d: %q %v", i+1, s, e)
		}
	}
}

// P2.4
func TestShow(t *testing.T) {
	for _, text := range texts {
		x := table(t, text)
		for from := -1; from <= len(text)+1; from++ {
			for to := -1; to <= len(text)+1; to++ {
				want, wantE := "", api.ErrRange
				if 0 <= from && from <= to && to <= len(text) {
					want, wantE = placeOf(text, from).String(), api.OK
					if from < to {
						want += "-" + placeOf(text, to).String()
					}
				}
				if s, e := x.Show(sp(from, to)); s != want || e != wantE {
					t.Errorf("Show %d %d of %q: %q %v", from, to, text, s, e)
				}
			}
		}
	}
}

// pointed is what the document says of Point, byte by byte.
func pointed(text string, from, to int) string {
	at := placeOf(text, from)
	line := bare(strings.SplitAfter(text, "\n")[at.Line-1])
	begin := from - at.Col + 1
	below := ""
	signs := ""
	for i, c := range []byte(line) {
		switch {
		case begin+i >= from && begin+i < to:
			signs += "^"
		case begin+i < from && c == '\t':
			below += "\t"
		case begin+i < from:
			below += " "
		}
	}
	if signs == "" {
		signs = "^"
	}
	return line + "\n" + below + signs + "\n"
}

// P2.4
func TestPoint(t *testing.T) {
	for _, text := range texts {
		x := table(t, text)
		for from := -1; from <= len(text)+1; from++ {
			for to := -1; to <= len(text)+1; to++ {
				want, wantE := "", api.ErrRange
				if 0 <= from && from <= to && to <= len(text) {
					want, wantE = pointed(text, from, to), api.OK
				}
				if s, e := x.Point(sp(from, to)); s != want || e != wantE {
					t.Errorf("Point %d %d of %q: %q %v, not %q", from, to, text, s, e, want)
				}
			}
		}
	}
}

// P2.4, written out: within a line's end, over several lines, at the text's end, behind bytes of no rune.
func TestPointWords(t *testing.T) {
	text := "\ta\tbc\r\nd\xc3\xa4e\n"
	x := table(t, text)
	for _, c := range []struct {
		from, to int
		want     string
	}{
		{3, 5, "\ta\tbc\n\t \t^^\n"},
		{0, 1, "\ta\tbc\n^\n"},
		{1, 1, "\ta\tbc\n\t^\n"},
		{4, 10, "\ta\tbc\n\t \t ^\n"},
		{5, 7, "\ta\tbc\n\t \t  ^\n"},
		{6, 7, "\ta\tbc\n\t \t  ^\n"},
		{6, 9, "\ta\tbc\n\t \t  ^\n"},
		{10, 11, "d\xc3\xa4e\n   ^\n"},
		{12, 12, "\n^\n"},
	} {
		if s, e := x.Point(sp(c.from, c.to)); e != api.OK || s != c.want {
			t.Errorf("Point %d %d: %q, not %q", c.from, c.to, s, c.want)
		}
	}
}

// String: both numbers as digits, whichever they are.
func TestString(t *testing.T) {
	for _, x := range []struct {
		p    Place
		want string
	}{{Place{1, 1}, "1:1"}, {Place{21, 305}, "21:305"}, {Place{}, "0:0"}, {Place{-4, math.MaxInt64}, "-4:9223372036854775807"}} {
		if x.p.String() != x.want {
			t.Errorf("String: %s, not %s", x.p, x.want)
		}
	}
}

// The chapter's example.
func TestExample(t *testing.T) {
	x := table(t, "ab\r\ncde")
	if p, e := x.At(5); e != api.OK || p.String() != "2:2" {
		t.Errorf("At: %s", p)
	}
	if s, e := x.Text(1); e != api.OK || s != "ab" {
		t.Errorf("Text: %q", s)
	}
	if s, e := x.Show(sp(4, 6)); e != api.OK || s != "2:1-2:3" {
		t.Errorf("Show: %q", s)
	}
	if s, e := x.Point(sp(4, 6)); e != api.OK || s != "cde\n^^\n" {
		t.Errorf("Point: %q", s)
	}
}

// P1 and rule 2: wild numbers are refused, with zero values beside the error.
func TestWild(t *testing.T) {
	x := table(t, "ab\r\ncde")
	for _, from := range wild {
		for _, to := range wild {
			refused := from < 0 || to < from || to > 7
			if s, e := x.Show(sp(from, to)); refused != (e == api.ErrRange) || refused && s != "" {
				t.Errorf("Show %d %d: %q %v", from, to, s, e)
			}
			if s, e := x.Point(sp(from, to)); refused != (e == api.ErrRange) || refused && s != "" {
				t.Errorf("Point %d %d: %q %v", from, to, s, e)
			}
		}
	}
}

// P2: the text that is handed in isn't kept, and what is answered is new memory.
func TestTextIsNotKept(t *testing.T) {
	bytes := []byte("ab\ncd")
	x := table(t, unsafe.String(&bytes[0], len(bytes)))
	for i := range bytes {
		bytes[i] = '\n'
	}
	one, _ := x.Text(1)
	two, _ := x.Text(2)
	if one != "ab" || two != "cd" || x.Lines() != 2 {
		t.Errorf("the text was kept: %q %q", one, two)
	}
	again, _ := x.Text(1)
	if unsafe.StringData(one) == unsafe.StringData(again) {
		t.Error("two answers share memory")
	}
}

// P2: calls change nothing that a later call could tell, refused ones neither.
func TestAskedTwice(t *testing.T) {
	ask := func(x *Table) []string {
		var out []string
		for i := -1; i < 10; i++ {
			p, _ := x.At(i)
			s, _ := x.Text(i)
			q, _ := x.Point(sp(i, i+1))
			r, _ := x.Show(sp(i, i+2))
			out = append(out, p.String(), s, q, r)
		}
		return out
	}
	x, y := table(t, "ab\r\ncde"), table(t, "\n\n")
	first := ask(x)
	ask(y)
	if !slices.Equal(first, ask(x)) || !slices.Equal(ask(y), ask(table(t, "\n\n"))) {
		t.Error("answers changed")
	}
}
