package show

import (
	"strings"

	"caulker/api"
	"caulker/lex"
)

// layout is what the document tells of blanks and lines, told of a text's tokens alone: how these are written.
type layout struct {
	strings.Builder
	words []string
	kinds []int
	open  []string // the brackets in which one is
	signs []bool   // which tokens have blanks on both sides
}

// laid is a text with the blanks and line ends that it must have.
func laid(text string) string {
	tokens, _ := lex.Lex(text)
	l := layout{}
	for _, t := range tokens {
		l.words = append(l.words, lex.Say(text, t))
		l.kinds = append(l.kinds, t.Kind)
	}
	for i, word := range l.words[:len(l.words)-1] {
		l.WriteString(l.ahead(i))
		l.WriteString(word)
		l.bracket(i)
	}
	if len(l.words) > 1 {
		l.WriteByte('\n')
	}
	return l.String()
}

// bracket is in which brackets one is behind a token.
func (l *layout) bracket(i int) {
	l.signs = append(l.signs, l.spaced(i))
	switch word := l.words[i]; {
	case word == "{" || word == "(" || word == "[" || word == "<" && l.angle(i):
		l.open = append(l.open, word)
	case word == "}" || word == ")" || word == "]" || word == ">" && l.in() == "<":
		l.open = l.open[:len(l.open)-1]
	}
}

// in is the innermost bracket in which one is.
func (l *layout) in() string {
	if len(l.open) == 0 {
		return ""
	}
	return l.open[len(l.open)-1]
}

// angle is whether a `<` is a bracket: it is one behind `cast` and `Option` alone.
func (l *layout) angle(i int) bool {
	return l.words[i-1] == "cast" || l.words[i-1] == "Option"
}

// ends is whether a value may end with a token.
func (l *layout) ends(i int) bool {
	switch l.words[i] {
	case ")", "]":
		return true
	case "!":
		return l.ends(i - 1)
	case "return", "is", "else", "new", "print":
		return false
	}
	return l.kinds[i] >= api.Word && l.kinds[i] <= api.Text
}

// spaced is whether a token has blanks on both sides: a sign between values, a `=`, or an `is`.
func (l *layout) spaced(i int) bool {
	switch word := l.words[i]; word {
	case "=", "is", "||", "&&", "==", "!=", "<=", ">=", "+", "*", "/", "%":
		return true
	case "-":
		return l.ends(i - 1)
	case "<":
		return !l.angle(i)
	case ">":
		return l.in() != "<"
	}
	return false
}

// ahead is what stands ahead of a token.
func (l *layout) ahead(i int) string {
	if i == 0 {
		return ""
	}
	last, word := l.words[i-1], l.words[i]
	far := strings.Repeat("  ", len(l.open))
	switch {
	case word == "}" && last == "{" && len(l.open) > 1:
		return ""
	case word == "}":
		return "\n" + far[2:]
	case last == "}" && word == "else":
		return " "
	case last == "}" && len(l.open) == 0:
		return "\n\n"
	case last == "{" || last == "}" || last == ";":
		return "\n" + far
	case word == "{" || l.spaced(i) || l.signs[i-1] || last == ",":
		return " "
	case last == "return" && word != ";" || (last == "if" || last == "while") && word == "(":
		return " "
	case l.kinds[i] == api.Word && (l.kinds[i-1] == api.Word || last == ">" || last == "?" || last == "]"):
		return " " // a word behind another one, or behind a type
	}
	return ""
}
