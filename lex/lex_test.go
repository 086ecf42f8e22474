package lex

import (
	"regexp"
	"slices"
	"strings"
	"testing"
	"unsafe"

	"caulker/api"
)

func tok(kind, from, to int) api.Token {
	return api.Token{Kind: kind, Span: api.Span{From: from, To: to}}
}

// texts are all texts of at most so many bytes of some.
func texts(bytes string, most int) []string {
	all := []string{""}
	for from := 0; most > 0; most-- {
		to := len(all)
		for _, s := range all[from:to] {
			for i := range len(bytes) {
				all = append(all, s+bytes[i:i+1])
			}
		}
		from = to
	}
	return all
}

// The forms that the document tells, each at a text's beginning. A text in quotes that isn't right reaches up to its last quote, or to the line end ahead of that.
var (
	betweenForm = regexp.MustCompile(`^([ \t\n\r]|//[^\n]*)*`)
	wordForm    = regexp.MustCompile(`^[a-zA-Z_][a-zA-Z_0-9]*`)
	floatForm   = regexp.MustCompile(`^[0-9]+\.[0-9]+`)
	numberForm  = regexp.MustCompile(`^[0-9]+`)
	reachForm   = regexp.MustCompile(`^"([^"\\\n]|\\[^\n]|\\)*"?`)
	rightForm   = regexp.MustCompile(`^"([ !#-\[\]-~]|\\["\\nt])*`)
	signForm    = regexp.MustCompile(`^(==|!=|<=|>=|&&|\|\||[{}()\[\];,.=<>+\-*/%!?])`)
)

// textError is what is wrong with the text in quotes with which a text begins.
func textError(s string) api.Errno {
	rest := s[len(rightForm.FindString(s)):]
	paired := strings.HasPrefix(rest, `\`)
	rest = strings.TrimPrefix(rest, `\`)
	switch {
	case rest == "", rest[0] == '\n':
		return api.ErrOpen
	case rest[0] < 32, rest[0] > 126:
		return api.ErrSign
	case paired:
		return api.ErrForm
	}
	return api.OK
}

// tokenOf is the kind of the token with which a text begins, how many bytes it has, and what is wrong with it.
func tokenOf(s string) (int, int, api.Errno) {
	for _, x := range []struct {
		form *regexp.Regexp
		kind int
		most int
	}{{wordForm, api.Word, 64}, {floatForm, api.Float, 20}, {numberForm, api.Number, 20}, {reachForm, api.Text, 256}, {signForm, api.Sign, 2}} {
		n := len(x.form.FindString(s))
		switch {
		case n == 0:
			continue
		case n > x.most:
			return 0, 0, api.ErrLong
		case x.kind == api.Text:
			return x.kind, n, textError(s)
		}
		return x.kind, n, api.OK
	}
	return 0, 0, api.ErrSign
}

// lexOf is what the document says of Lex.
func lexOf(text string) ([]api.Token, api.Fault) {
	if len(text) > 65536 {
		return nil, api.Fault{Code: api.ErrLong}
	}
	var list []api.Token
	at := 0
	for {
		at += len(betweenForm.FindString(text[at:]))
		if at == len(text) {
			return append(list, tok(api.End, at, at)), api.Fault{}
		}
		kind, n, e := tokenOf(text[at:])
		if len(list) == 16384 {
			e = api.ErrLong
		}
		if e != api.OK {
			return nil, api.Fault{Code: e, At: at}
		}
		list = append(list, tok(kind, at, at+n))
		at += n
	}
}

// held holds Lex to the document.
func held(t *testing.T, text string) {
	t.Helper()
	list, f := Lex(text)
	want, wantF := lexOf(text)
	if f != wantF || !slices.Equal(list, want) {
		t.Fatalf("Lex %.60q: %d tokens %v, not %d %v", text, len(list), f, len(want), wantF)
	}
}

// told is a text's tokens, each as its kind's first letter and what it says.
func told(t *testing.T, text string) string {
	t.Helper()
	list, f := Lex(text)
	if f != (api.Fault{}) {
		t.Errorf("Lex %q: %v", text, f)
	}
	var out []string
	for _, x := range list {
		out = append(out, "EWNFTS"[x.Kind:x.Kind+1]+":"+Say(text, x))
	}
	return strings.Join(out, " ")
}

// P6.1 to P6.3, of all short texts of some bytes
func TestLexShort(t *testing.T) {
	for _, s := range texts("a1. /\n", 6) {
		held(t, s)
	}
	for _, s := range texts("\"\\nq\n\t\xe4", 6) {
		held(t, s)
	}
	for _, s := range texts("\"\\/_0.#\x00", 5) {
		held(t, s)
	}
	for _, s := range texts("=!<>&|-/", 4) {
		held(t, s)
	}
}

// P6.1, P6.2: of each byte, alone, ahead of others, behind them, and in a text, a comment, a word and a number.
func TestEachByte(t *testing.T) {
	for c := range 256 {
		s := string([]byte{byte(c)})
		for _, text := range []string{s, s + s, s + "a", "a" + s + "a", "1" + s + "1", "1." + s, "\"" + s + "\"", "\"\\" + s + "\"", "\"\\" + s, "//" + s + "#", "/" + s, s + "=", "=" + s, "a " + s} {
			held(t, text)
		}
	}
}

// P6.1: what stands between tokens.
func TestBetween(t *testing.T) {
	for _, x := range []struct{ text, want string }{
		{"", "E:"},
		{" \t\n\r", "E:"},
		{"//", "E:"},
		{"//\n", "E:"},
		{"// a \x00\xff\" \\ // b", "E:"},
		{"a// b\rc\n//\nd//", "W:a W:d E:"},
		{"a / / b", "W:a S:/ S:/ W:b E:"},
		{"a/ //b\n/c", "W:a S:/ S:/ W:c E:"},
		{"a///b", "W:a E:"},
		{"\"//\"//\"", "T:\"//\" E:"},
		{"1//\n.5", "N:1 S:. N:5 E:"},
	} {
		if got := told(t, x.text); got != x.want {
			t.Errorf("%q: %s, not %s", x.text, got, x.want)
		}
	}
	for _, c := range "\v\f\u0085\u00a0\u2028\ufeff\b" {
		if list, f := Lex("a" + string(c)); len(list) != 0 || f != (api.Fault{Code: api.ErrSign, At: 1}) {
			t.Errorf("%q: %v", c, f)
		}
	}
}

// P6.2: where tokens end.
func TestTokens(t *testing.T) {
	for _, x := range []struct{ text, want string }{
		{"a_1B _ __9 classy", "W:a_1B W:_ W:__9 W:classy E:"},
		{"1x 01 007.50", "N:1 W:x N:01 F:007.50 E:"},
		{"1. 1.x 1..2 .5", "N:1 S:. N:1 S:. W:x N:1 S:. S:. N:2 S:. N:5 E:"},
		{"1.5.2 1.5e3 1.5.x", "F:1.5 S:. N:2 F:1.5 W:e3 F:1.5 S:. W:x E:"},
		{"=== !== <== >>= <>", "S:== S:= S:!= S:= S:<= S:= S:> S:>= S:< S:> E:"},
		{"&&|| = = ! =", "S:&& S:|| S:= S:= S:! S:= E:"},
		{"{}()[];,.=<>+-*/%!?", "S:{ S:} S:( S:) S:[ S:] S:; S:, S:. S:= S:< S:> S:+ S:- S:* S:/ S:% S:! S:? E:"},
		{"a!=b a! =b a!.f[1]?", "W:a S:!= W:b W:a S:! S:= W:b W:a S:! S:. W:f S:[ N:1 S:] S:? E:"},
		{`"" "a""b" "\"" "\\" "\\\"x"`, `T:"" T:"a" T:"b" T:"\"" T:"\\" T:"\\\"x" E:`},
		{`"\n\t"n "~ !"`, `T:"\n\t" W:n T:"~ !" E:`},
	} {
		if got := told(t, x.text); got != x.want {
			t.Errorf("%q: %s, not %s", x.text, got, x.want)
		}
	}
}

// P6.3: faults, told where the token begins, and no tokens beside them
func TestFaults(t *testing.T) {
	for _, x := range []struct {
		text string
		code api.Errno
		at   int
	}{
		{"a &", api.ErrSign, 2},
		{"a & &", api.ErrSign, 2},
		{"a || |", api.ErrSign, 5},
		{"&&&", api.ErrSign, 2},
		{"x '", api.ErrSign, 2},
		{"a\x00", api.ErrSign, 1},
		{"\xc3\xa4", api.ErrSign, 0},
		{"a:b", api.ErrSign, 1},
		{"a~b@", api.ErrSign, 1},
		{`a "b`, api.ErrOpen, 2},
		{`a "`, api.ErrOpen, 2},
		{`a "\`, api.ErrOpen, 2},
		{`a "\"`, api.ErrOpen, 2},
		{"\"a\n\"", api.ErrOpen, 0},
		{"\"a\\\n\"", api.ErrOpen, 0},
		{"\"a\r\n\"", api.ErrSign, 0},
		{"\"\t\"", api.ErrSign, 0},
		{"\"\x7f\"", api.ErrSign, 0},
		{"\"\xc3\xa4\"", api.ErrSign, 0},
		{`"\r"`, api.ErrForm, 0},
		{`"\ "`, api.ErrForm, 0},
		{`"\N"`, api.ErrForm, 0},
		{`"\0"`, api.ErrForm, 0},
		{"a // \"\n \"\\q", api.ErrForm, 8},
		{"\"\\q\x00", api.ErrForm, 0},
		{"\"\x00\\q", api.ErrSign, 0},
		{"\"\x00\n", api.ErrSign, 0},
		{"\"\\\x00\"", api.ErrSign, 0},
		{"\"a\n\\q\x00\"", api.ErrOpen, 0},
		{"a \"b\" & \"", api.ErrSign, 6},
	} {
		if list, f := Lex(x.text); len(list) != 0 || f != (api.Fault{Code: x.code, At: x.at}) {
			t.Errorf("%q: %v %v, not %d at %d", x.text, list, f, x.code, x.at)
		}
	}
}

// quotedOf is a text in quotes of so many bytes, with those, with this at its beginning.
func quotedOf(n int, s string) string {
	return `"` + s + strings.Repeat("b", n-2-len(s)) + `"`
}

// P6.3: how long a token may be. What is too long is told ahead of what else is wrong with it.
func TestLongTokens(t *testing.T) {
	for _, x := range []struct {
		text string
		code api.Errno
	}{
		{strings.Repeat("w", 64), api.OK},
		{strings.Repeat("w", 65), api.ErrLong},
		{"_" + strings.Repeat("9", 64), api.ErrLong},
		{strings.Repeat("9", 20), api.OK},
		{strings.Repeat("9", 21), api.ErrLong},
		{"1." + strings.Repeat("9", 18), api.OK},
		{"1." + strings.Repeat("9", 19), api.ErrLong},
		{strings.Repeat("9", 18) + ".5", api.OK},
		{strings.Repeat("9", 19) + ".5", api.ErrLong},
		{strings.Repeat("9", 20) + ".x", api.OK},
		{strings.Repeat("9", 21) + ".x", api.ErrLong},
		{quotedOf(256, ""), api.OK},
		{quotedOf(257, ""), api.ErrLong},
		{quotedOf(256, `\"\\`), api.OK},
		{quotedOf(257, `\"\\`), api.ErrLong},
		{quotedOf(256, `\q`), api.ErrForm},
		{quotedOf(257, `\q`), api.ErrLong},
		{quotedOf(256, "\x00"), api.ErrSign},
		{quotedOf(257, "\x00"), api.ErrLong},
		{quotedOf(256, "")[:255] + "\n" + strings.Repeat("b", 300) + `"`, api.ErrOpen},
		{quotedOf(257, "\n"), api.ErrOpen},
		{quotedOf(257, "")[:256], api.ErrOpen},
		{quotedOf(258, "")[:257], api.ErrLong},
		{"//" + strings.Repeat("w", 1000), api.OK},
	} {
		text := "a\n" + x.text
		want := api.Fault{}
		if x.code != api.OK {
			want = api.Fault{Code: x.code, At: 2}
		}
		if list, f := Lex(text); f != want || (len(list) == 0) != (x.code != api.OK) {
			t.Errorf("%q: %v, not %v", text, f, want)
		}
		held(t, text)
	}
}

// P6.3: how many tokens there may be. One too many is told ahead of what else is wrong with it.
func TestManyTokens(t *testing.T) {
	full := strings.Repeat("a;+ ", 5461) + "b"
	list, f := Lex(full)
	if f != (api.Fault{}) || len(list) != 16385 || list[16384] != tok(api.End, len(full), len(full)) {
		t.Errorf("as many as may be: %d %v", len(list), f)
	}
	held(t, full+" // c d")
	for _, s := range []string{"c", "1", "\"\"", ";", "#", "\"", "\"\\q\"", strings.Repeat("w", 65)} {
		list, f := Lex(full + "\n " + s)
		if len(list) != 0 || f != (api.Fault{Code: api.ErrLong, At: len(full) + 2}) {
			t.Errorf("one more, %q: %d %v", s, len(list), f)
		}
	}
	if _, f := Lex("#" + full + " c"); f != (api.Fault{Code: api.ErrSign}) {
		t.Errorf("a fault ahead: %v", f)
	}
}

// P6.3: how long a text may be. That is told ahead of all else.
func TestLongText(t *testing.T) {
	if list, f := Lex(strings.Repeat(" ", 65535) + "a"); f != (api.Fault{}) || !slices.Equal(list, []api.Token{tok(api.Word, 65535, 65536), tok(api.End, 65536, 65536)}) {
		t.Errorf("as long as may be: %v %v", list, f)
	}
	for _, text := range []string{strings.Repeat(" ", 65537), " #" + strings.Repeat(" ", 65536), strings.Repeat("\"", 65537), strings.Repeat("a", 1<<20), strings.Repeat(";", 65537)} {
		if list, f := Lex(text); len(list) != 0 || f != (api.Fault{Code: api.ErrLong}) {
			t.Errorf("too long: %d %v", len(list), f)
		}
	}
	for _, c := range []string{"a", "1", "\"", "\\", ";", "\n", "/", "\x00", "1."} {
		held(t, strings.Repeat(c, 65536/len(c)))
	}
}

// P6.1 to P6.3, of longer texts
func TestLexMixed(t *testing.T) {
	parts := []string{"a", "x9_", "class", "12", "1.5", ".", "..", "\"s\"", "\"\\\"\\n\"", "==", "=", "!", "!=", "&&", "||", "<", "<=", "/", "//", "// \"c\"\n", "\n", "\r\n", "\t", " ", " ", "(", ")", "{", "}", "[", "]", "?", "\"", "\\", "#", "&", "\xff", strings.Repeat("w", 60), strings.Repeat("8", 19), "\"" + strings.Repeat("t", 250)}
	var next uint32 = 11
	roll := func(n int) int {
		next = next*1664525 + 1013904223
		return int(next>>16) % n
	}
	for range 20000 {
		var text strings.Builder
		most := []int{32, len(parts)}[roll(2)]
		for range roll(30) {
			text.WriteString(parts[roll(most)])
		}
		held(t, text.String())
	}
}

// P6.3: Say, of whichever token
func TestSay(t *testing.T) {
	for _, x := range []struct {
		from, to int
		want     string
	}{{0, 3, "abc"}, {1, 2, "b"}, {3, 3, ""}, {2, 4, ""}, {-1, 2, ""}, {2, 1, ""}, {0, 1 << 62, ""}, {-1 << 63, 1<<63 - 1, ""}} {
		for kind := -1; kind < 7; kind++ {
			if s := Say("abc", tok(kind, x.from, x.to)); s != x.want {
				t.Errorf("Say %d %d: %q", x.from, x.to, s)
			}
		}
	}
	if s := Say(strings.Repeat("a", 65537), tok(api.Word, 0, 1)); s != "" {
		t.Errorf("Say of a text that is too long: %q", s)
	}
}

// The chapter's example.
func TestExample(t *testing.T) {
	text := "if (x != 1.5) // so\n print(\"a\\n\");"
	list, f := Lex(text)
	if f != (api.Fault{}) || len(list) != 12 || list[3] != tok(api.Sign, 6, 8) {
		t.Errorf("Lex: %v %v", list, f)
	}
	if got, want := told(t, text), "W:if S:( W:x S:!= F:1.5 S:) W:print S:( T:\"a\\n\" S:) S:; E:"; got != want {
		t.Errorf("Lex: %s", got)
	}
}

// P2: an answered list is new memory, its spare room too.
func TestListsAreNew(t *testing.T) {
	a, _ := Lex("a b c d e")
	b, _ := Lex("a b c d e")
	want := slices.Clone(b)
	a = a[:cap(a)]
	for i := range a {
		a[i] = tok(-7, -7, -7)
	}
	if c, _ := Lex("a b c d e"); !slices.Equal(b, want) || !slices.Equal(c, want) {
		t.Error("memory is shared")
	}
}

// P2: answered texts are new memory.
func TestTextsAreNew(t *testing.T) {
	bytes := []byte("\"abc\"")
	view := unsafe.String(&bytes[0], len(bytes))
	say := Say(view, tok(api.Text, 0, 5))
	said, _ := Unquote(view)
	quoted, _ := Quote(view[1:4])
	for i := range bytes {
		bytes[i] = '-'
	}
	if say != "\"abc\"" || said != "abc" || quoted != "\"abc\"" {
		t.Errorf("memory is shared: %q %q %q", say, said, quoted)
	}
}
