package lex

import (
	"strings"
	"testing"

	"caulker/api"
)

// quoteOf is what the document says of Quote.
func quoteOf(s string) (string, api.Errno) {
	q := strings.NewReplacer("\n", `\n`, "\t", `\t`, `"`, `\"`, `\`, `\\`).Replace(s)
	for _, c := range []byte(q) {
		if c < 32 || c > 126 {
			return "", api.ErrSign
		}
	}
	return `"` + q + `"`, api.OK
}

// unquoteOf is what the document says of Unquote.
func unquoteOf(s string) (string, api.Errno) {
	if s == "" || s[0] != '"' {
		return "", api.ErrForm
	}
	if e := textError(s); e != api.OK {
		return "", e
	}
	q := rightForm.FindString(s)
	if len(q) != len(s)-1 {
		return "", api.ErrForm
	}
	return strings.NewReplacer(`\n`, "\n", `\t`, "\t", `\"`, `"`, `\\`, `\`).Replace(q[1:]), api.OK
}

// heldQuote holds Quote and Unquote to the document.
func heldQuote(t *testing.T, s string) {
	t.Helper()
	q, e := Quote(s)
	if want, wantE := quoteOf(s); q != want || e != wantE {
		t.Fatalf("Quote %q: %q %d, not %q %d", s, q, e, want, wantE)
	}
	if back, wrong := Unquote(q); e == api.OK && (back != s || wrong != api.OK) {
		t.Fatalf("Unquote %q: %q %d", q, back, wrong)
	}
	u, e := Unquote(s)
	if want, wantE := unquoteOf(s); u != want || e != wantE {
		t.Fatalf("Unquote %q: %q %d, not %q %d", s, u, e, want, wantE)
	}
}

// P6.4, of all short texts, and of each byte
func TestQuoteShort(t *testing.T) {
	for _, s := range texts("\"\\nta\n\t\x7f", 6) {
		heldQuote(t, s)
	}
	for c := range 256 {
		s := string([]byte{byte(c)})
		for _, text := range []string{s, s + s, "a" + s, "\"" + s + "\"", "\"\\" + s + "\"", "\"\\" + s, "\"a\"" + s, s + "\"a\""} {
			heldQuote(t, text)
		}
	}
}

// P6.4, written out
func TestUnquoteWords(t *testing.T) {
	for _, x := range []struct {
		s, want string
		wantE   api.Errno
	}{
		{`""`, "", api.OK},
		{`"a\"b\\n\n\t"`, "a\"b\\n\n\t", api.OK},
		{"", "", api.ErrForm},
		{"a", "", api.ErrForm},
		{` "a"`, "", api.ErrForm},
		{`"a" `, "", api.ErrForm},
		{`"a""`, "", api.ErrForm},
		{`"a"b"`, "", api.ErrForm},
		{"\"a\"\n", "", api.ErrForm},
		{"\"a\"\x00", "", api.ErrForm},
		{`"`, "", api.ErrOpen},
		{`"a`, "", api.ErrOpen},
		{`"a\`, "", api.ErrOpen},
		{`"a\"`, "", api.ErrOpen},
		{"\"a\n\"", "", api.ErrOpen},
		{"\"a\\\n\"", "", api.ErrOpen},
		{"\"a\nb\"c", "", api.ErrOpen},
		{"\"\xe4\"", "", api.ErrSign},
		{"\"\t\"", "", api.ErrSign},
		{"\"\t\"x", "", api.ErrSign},
		{`"\q"`, "", api.ErrForm},
		{"\"\\q\t\n", "", api.ErrForm},
		{"\"\t\\q\n", "", api.ErrSign},
		{"\"\\\t\"", "", api.ErrSign},
	} {
		if s, e := Unquote(x.s); s != x.want || e != x.wantE {
			t.Errorf("Unquote %q: %q %d, not %q %d", x.s, s, e, x.want, x.wantE)
		}
	}
}

// P6.4: what can't be said in quotes, wherever it stands
func TestQuoteRefused(t *testing.T) {
	for _, s := range []string{"\r", "a\x00b", "\x1f", "\x7f", "\x80", "\xff", "\u00e4", "ab\n\r", "\\\x01"} {
		if q, e := Quote(s); q != "" || e != api.ErrSign {
			t.Errorf("Quote %q: %q %d", s, q, e)
		}
	}
}

// P6.4: neither has a limit.
func TestQuoteLong(t *testing.T) {
	heldQuote(t, strings.Repeat("ab\"\n\\", 1<<16))
	if s, e := Unquote(strings.Repeat("\"", 1<<18)); s != "" || e != api.ErrForm {
		t.Errorf("Unquote: %q %d", s, e)
	}
	if s, e := Unquote(strings.Repeat("\"\\", 1<<18)); s != "" || e != api.ErrOpen {
		t.Errorf("Unquote: %q %d", s, e)
	}
}
