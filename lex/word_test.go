package lex

import (
	"strings"
	"testing"
)

// kept is the document's list.
const kept = "class extends init int bool double str void Option if else while break continue return print super this null none some is true false new cast toint todouble input ask length val"

// P6.5
func TestKept(t *testing.T) {
	words := strings.Fields(kept)
	if len(words) != 32 {
		t.Fatalf("%d words", len(words))
	}
	for _, s := range words {
		if !Kept(s) || Name(s) {
			t.Errorf("%s: %t %t", s, Kept(s), Name(s))
		}
		for _, near := range []string{s + "s", s + "_", "_" + s, s + "1", strings.ToUpper(s), s[:len(s)-1] + "_", s + s} {
			if Kept(near) || !Name(near) {
				t.Errorf("%s: %t %t", near, Kept(near), Name(near))
			}
		}
		for _, wrong := range []string{s + " ", " " + s, s + "\n", s + "\x00", s + "?"} {
			if Kept(wrong) || Name(wrong) {
				t.Errorf("%q: %t %t", wrong, Kept(wrong), Name(wrong))
			}
		}
	}
	for _, s := range []string{"", " ", "Class", "option", "Int", "string", "main", "Main", "for", "do", "static", "class extends", "\xff"} {
		if Kept(s) {
			t.Errorf("Kept %q", s)
		}
	}
}

// P6.5, of all short texts, and of each byte
func TestName(t *testing.T) {
	list := texts("aZ_09 .\n\"\xc3\xa4", 4)
	for c := range 256 {
		s := string([]byte{byte(c)})
		list = append(list, s, "a"+s, s+"a", "a"+s+"a")
	}
	for _, s := range list {
		if want := s != "" && wordForm.FindString(s) == s; Name(s) != want {
			t.Errorf("Name %q: %t", s, Name(s))
		}
	}
}

// P6.5 at its bound, and of words that are kept in part alone
func TestNameWords(t *testing.T) {
	for s, want := range map[string]bool{
		strings.Repeat("w", 64): true, strings.Repeat("w", 65): false, "w" + strings.Repeat("_", 63): true, "w" + strings.Repeat("9", 64): false,
		strings.Repeat("w", 1<<20): false, "whiles": true, "While": true, "_": true, "9a": false, "a-b": false, "a b": false, "\u00e4": false, "a\u0300": false, "\u0430": false, "": false,
	} {
		if Name(s) != want {
			t.Errorf("Name %.70q: %t", s, Name(s))
		}
	}
}
