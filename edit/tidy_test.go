package edit

import (
	"slices"
	"strings"
	"testing"

	"caulker/api"
)

// bare is an edit without what its span and its text have alike at both ends: as many bytes as can be at the beginning, then at the end.
func bare(text string, e api.Edit) api.Edit {
	old := text[e.From:e.To]
	most := min(len(old), len(e.Text))
	n := most
	for old[:n] != e.Text[:n] {
		n--
	}
	m := most - n
	for !strings.HasSuffix(e.Text[n:], old[len(old)-m:]) {
		m--
	}
	return ed(e.From+n, e.To-m, e.Text[n:len(e.Text)-m])
}

// tidyOf is what the document says of Tidy, each edit put behind those that are tidy already.
func tidyOf(text string, list []api.Edit) []api.Edit {
	var out []api.Edit
	for _, e := range list {
		e = bare(text, e)
		if e == put(e.From, "") {
			continue
		}
		if len(out) > 0 && out[len(out)-1].To == e.From {
			last := out[len(out)-1]
			out = out[:len(out)-1]
			e = bare(text, ed(last.From, e.To, last.Text+e.Text))
		}
		if e != put(e.From, "") {
			out = append(out, e)
		}
	}
	return out
}

// isTidy: does each change something, and differ from what it stands for at both ends, and does none begin where one ends?
func isTidy(text string, list []api.Edit) bool {
	for i, e := range list {
		if e == put(e.From, "") || i > 0 && list[i-1].To >= e.From {
			return false
		}
		if e != bare(text, e) {
			return false
		}
	}
	return true
}

// P3.4, of all lists of two
func TestTidyPairs(t *testing.T) {
	for _, text := range []string{"", "aab", "abab"} {
		for _, list := range right(text, "", "a", "ab", "ba", "aab") {
			got, e := Tidy(text, list...)
			if e != api.OK || !slices.Equal(got, tidyOf(text, list)) {
				t.Fatalf("Tidy %q %v: %v %d, not %v", text, list, got, e, tidyOf(text, list))
			}
			if changed(text, got) != changed(text, list) || !isTidy(text, got) || Cost(got...) > Cost(list...) {
				t.Fatalf("Tidy %q %v: %v", text, list, got)
			}
		}
	}
}

// P3.4, of longer lists
func TestTidyLists(t *testing.T) {
	text := "abbaab"
	var next uint32 = 7
	roll := func(n int) int {
		next = next*1664525 + 1013904223
		return int(next>>16) % n
	}
	for range 20000 {
		var list []api.Edit
		for at := roll(2); at <= len(text) && len(list) < 9; at += roll(2) {
			to := min(len(text), at+roll(3))
			list = append(list, ed(at, to, "abba"[roll(2):][:roll(4)]))
			at = to
		}
		got, e := Tidy(text, list...)
		if e != api.OK || !slices.Equal(got, tidyOf(text, list)) || !isTidy(text, got) || changed(text, got) != changed(text, list) {
			t.Fatalf("Tidy %v: %v %d, not %v", list, got, e, tidyOf(text, list))
		}
	}
}

// P3.4, written out
func TestTidyWords(t *testing.T) {
	for _, x := range []struct {
		text       string
		list, want []api.Edit
	}{
		{"abc", nil, nil},
		{"abc", []api.Edit{put(1, "")}, nil},
		{"abc", []api.Edit{ed(0, 3, "abc")}, nil},
		{"abc", []api.Edit{ed(0, 3, "axc")}, []api.Edit{ed(1, 2, "x")}},
		{"aaa", []api.Edit{ed(0, 3, "aa")}, []api.Edit{ed(2, 3, "")}},
		{"aa", []api.Edit{ed(0, 2, "aaa")}, []api.Edit{put(2, "a")}},
		{"abcb", []api.Edit{ed(0, 4, "ab")}, []api.Edit{ed(2, 4, "")}},
		{"abc", []api.Edit{put(1, "b"), ed(1, 2, "")}, nil},
		{"abc", []api.Edit{put(1, "x"), put(1, ""), put(1, "y")}, []api.Edit{put(1, "xy")}},
		{"abcd", []api.Edit{ed(0, 1, "x"), ed(1, 2, "b"), ed(2, 3, "y")}, []api.Edit{ed(0, 1, "x"), ed(2, 3, "y")}},
		{"abcd", []api.Edit{ed(0, 1, "x"), ed(1, 3, "by")}, []api.Edit{ed(0, 1, "x"), ed(2, 3, "y")}},
		{"abcd", []api.Edit{ed(0, 2, "xb"), ed(2, 3, "y")}, []api.Edit{ed(0, 1, "x"), ed(2, 3, "y")}},
		{"abcd", []api.Edit{ed(0, 1, "x"), put(2, "b"), ed(2, 3, "y")}, []api.Edit{ed(0, 1, "x"), ed(2, 3, "by")}},
		{"abcd", []api.Edit{ed(0, 1, ""), put(1, "a"), put(1, "z")}, []api.Edit{put(1, "z")}},
		{"abcd", []api.Edit{ed(0, 1, "b"), ed(1, 2, ""), ed(2, 3, "")}, []api.Edit{ed(0, 1, ""), ed(2, 3, "")}},
	} {
		got, e := Tidy(x.text, x.list...)
		if e != api.OK || !slices.Equal(got, x.want) {
			t.Errorf("Tidy %q %v: %v %d, not %v", x.text, x.list, got, e, x.want)
		}
	}
}

// P3.4 at the bounds: as many edits as may be, all one behind the other, and the longest text.
func TestTidyLongest(t *testing.T) {
	text := strings.Repeat("ab", 32768)
	var list []api.Edit
	for i := range 4096 {
		list = append(list, ed(16*i, 16*i+16, strings.Repeat("c", 16)))
	}
	got, e := Tidy(text, list...)
	if e != api.OK || len(got) != 1 || got[0] != ed(0, 65536, strings.Repeat("c", 65536)) {
		t.Errorf("Tidy: %d edits, %d", len(got), e)
	}
	for i := range list {
		list[i] = ed(16*i+1, 16*i+3, "ba")
	}
	if got, e := Tidy(text, list...); e != api.OK || len(got) != 0 {
		t.Errorf("Tidy: %d edits, %d", len(got), e)
	}
	for i := range list {
		list[i] = ed(16*i+1, 16*i+3, "bx")
	}
	got, e = Tidy(text, list...)
	if e != api.OK || len(got) != 4096 || got[4095] != ed(16*4095+2, 16*4095+3, "x") {
		t.Errorf("Tidy: %d edits, %d", len(got), e)
	}
}
