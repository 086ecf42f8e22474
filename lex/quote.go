package lex

import (
	"strings"

	"caulker/api"
)

// What stands behind a `\` in a text in quotes, and what each of these says.
const (
	written = `nt"\`
	meant   = "\n\t\"\\"
)

// quoted: how far a text in quotes reaches that begins at a place: behind its last quote; if it has none, up to the line end or the text's end.
func quoted(text string, at int) int {
	paired := false // does the byte stand behind a `\` that is one with it?
	to := skip(text, at+1, func(c byte) bool {
		if c == '\n' || c == '"' && !paired {
			return false
		}
		paired = c == '\\' && !paired
		return true
	})
	if to < len(text) && text[to] == '"' {
		to++
	}
	return to
}

// said: what a text in quotes says, from its first quote to where it reaches; or what is wrong at its first byte that isn't right.
func said(text string) (string, api.Errno) {
	var says strings.Builder
	paired := false
	for i := range len(text) - 1 {
		c := text[i+1]
		switch {
		case !seen(c):
			return "", api.ErrSign
		case paired:
			k := strings.IndexByte(written, c)
			if k < 0 {
				return "", api.ErrForm
			}
			says.WriteByte(meant[k])
			paired = false
		case c == '"':
			return says.String(), api.OK
		case c == '\\':
			paired = true
		default:
			says.WriteByte(c)
		}
	}
	return "", api.ErrOpen
}

// seen: may a byte stand in a text as it is?
func seen(c byte) bool { return 32 <= c && c <= 126 }

// Unquote: what a text in quotes says.
func Unquote(s string) (string, api.Errno) {
	if !strings.HasPrefix(s, `"`) {
		return "", api.ErrForm
	}
	to := quoted(s, 0)
	says, wrong := said(s[:to])
	if wrong != api.OK {
		return "", wrong
	}
	if to < len(s) {
		return "", api.ErrForm
	}
	return says, api.OK
}

// Quote: a text in quotes that says something.
func Quote(s string) (string, api.Errno) {
	var text strings.Builder
	text.WriteByte('"')
	for i := range len(s) {
		c := s[i]
		if k := strings.IndexByte(meant, c); k >= 0 {
			text.WriteByte('\\')
			c = written[k]
		}
		if !seen(c) {
			return "", api.ErrSign
		}
		text.WriteByte(c)
	}
	text.WriteByte('"')
	return text.String(), api.OK
}
