// Package lines tells places of a text as lines and columns, and back.
package lines

import (
	"sort"
	"strconv"
	"strings"

	"caulker/api"
	"caulker/span"
)

// Place is a line and a column, both from 1 on.
type Place struct{ Line, Col int }

// Table is where the lines of a text begin, and the text itself.
type Table struct {
	text   string
	begins []int
}

// Of: a text's table.
func Of(text string) (*Table, api.Errno) {
	if len(text) > span.MaxText {
		return nil, api.ErrLong
	}
	t := &Table{text: strings.Clone(text), begins: []int{0}}
	for i := range len(text) {
		if text[i] == '\n' {
			t.begins = append(t.begins, i+1)
		}
	}
	return t, api.OK
}

// Lines: how many lines there are: one more than line ends.
func (t *Table) Lines() int { return len(t.begins) }

// has: is there a line of that number?
func (t *Table) has(n int) bool { return 1 <= n && n <= t.Lines() }

// At: the place of a byte, or of the text's end.
func (t *Table) At(at int) (Place, api.Errno) {
	if at < 0 || at > len(t.text) {
		return Place{}, api.ErrRange
	}
	line := sort.Search(t.Lines(), func(i int) bool { return t.begins[i] > at })
	return Place{Line: line, Col: at - t.begins[line-1] + 1}, api.OK
}

// Byte: the byte, or the text's end, that has a place.
func (t *Table) Byte(p Place) (int, api.Errno) {
	if !t.has(p.Line) || p.Col < 1 || p.Col > t.columns(p.Line) {
		return 0, api.ErrRange
	}
	return t.begins[p.Line-1] + p.Col - 1, api.OK
}

// columns: how many places a line has: one for each byte, its end's too; the last line has one more, for the text's end.
func (t *Table) columns(n int) int {
	if n == t.Lines() {
		return len(t.text) - t.begins[n-1] + 1
	}
	return t.begins[n] - t.begins[n-1]
}

// Line: the bytes of a line, without its end (a line end, or a return and a line end).
func (t *Table) Line(n int) (api.Span, api.Errno) {
	if !t.has(n) {
		return api.Span{}, api.ErrRange
	}
	from, to := t.begins[n-1], len(t.text)
	if n < t.Lines() {
		to = t.begins[n] - 1
		if from < to && t.text[to-1] == '\r' {
			to--
		}
	}
	return span.Of(from, to)
}

// Text: a line's text.
func (t *Table) Text(n int) (string, api.Errno) {
	s, e := t.Line(n)
	if e != api.OK {
		return "", e
	}
	return span.Text(t.text, s)
}

// String: a place as line, a colon, and column.
func (p Place) String() string {
	return strconv.Itoa(p.Line) + ":" + strconv.Itoa(p.Col)
}

// Show: a span's two places; of an empty one the only one.
func (t *Table) Show(s api.Span) (string, api.Errno) {
	if e := span.Check(s, len(t.text)); e != api.OK {
		return "", e
	}
	from, _ := t.At(s.From)
	if span.Len(s) == 0 {
		return from.String(), api.OK
	}
	to, _ := t.At(s.To)
	return from.String() + "-" + to.String(), api.OK
}

// Point: the text of the line in which a span begins, and below it a sign under each byte of the span that is in it; one sign, if none is.
func (t *Table) Point(s api.Span) (string, api.Errno) {
	if e := span.Check(s, len(t.text)); e != api.OK {
		return "", e
	}
	p, _ := t.At(s.From)
	line, _ := t.Line(p.Line)
	text, _ := t.Text(p.Line)
	ahead := min(s.From-line.From, len(text))
	met, _ := span.Meet(s, line)
	signs := strings.Repeat("^", max(span.Len(met), 1))
	return text + "\n" + blanks(text[:ahead]) + signs + "\n", api.OK
}

// blanks: what stands below a text: tabs stay, so that what comes behind them stands in line whatever a tab's width.
func blanks(text string) string {
	below := []byte(text)
	for i := range len(below) {
		if below[i] != '\t' {
			below[i] = ' '
		}
	}
	return string(below)
}
