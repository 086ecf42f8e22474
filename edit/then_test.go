package edit

import (
	"fmt"
	"slices"
	"strings"
	"testing"

	"caulker/api"
)

// told is a text and lists of edits as a remark, not longer than one wants to read.
func told(text string, lists ...[]api.Edit) string {
	s := fmt.Sprintf("%q %v", text[:min(len(text), 20)], lists)
	return s[:min(len(s), 300)]
}

// heldThen asks Then, and holds what it answers to the document's words.
func heldThen(t *testing.T, text string, first, then []api.Edit) {
	t.Helper()
	want := changed(changed(text, first), then)
	got, e := Then(text, first, then)
	if e != api.OK || checked(len(text), got) != api.OK {
		t.Fatalf("Then %s: %s %d", told(text, first, then), told("", got), e)
	}
	if changed(text, got) != want || !isTidy(text, got) || Cost(got...) > Cost(first...)+Cost(then...) {
		t.Fatalf("Then %s: %s", told(text, first, then), told("", got))
	}
}

// P3.5, of all lists of two, both ways
func TestThenPairs(t *testing.T) {
	text := "aba"
	firsts := right(text, "", "a", "xy")
	for i, first := range firsts {
		made := changed(text, first)
		thens := right(made, "", "b", "ax")
		for j := i % 5; j < len(thens); j += 5 {
			heldThen(t, text, first, thens[j])
		}
	}
}

// P3.5: what was made is taken back, in part or whole.
func TestThenBack(t *testing.T) {
	text := "abbab"
	for _, list := range right(text, "", "b", "xyz") {
		made := changed(text, list)
		back, e := Invert(text, list...)
		if e != api.OK {
			t.Fatal(e)
		}
		if got, e := Then(text, list, back); e != api.OK || len(got) != 0 {
			t.Fatalf("Then %v and back: %v %d", list, got, e)
		}
		if got, e := Then(made, back, list); e != api.OK || len(got) != 0 {
			t.Fatalf("Then back and %v: %v %d", list, got, e)
		}
	}
}

// P3.5, written out, where but one answer is right
func TestThenWords(t *testing.T) {
	for _, x := range []struct {
		text              string
		first, then, want []api.Edit
	}{
		{"abc", nil, nil, nil},
		{"abc", []api.Edit{ed(0, 3, "abc")}, []api.Edit{put(2, "")}, nil},
		{"abc", []api.Edit{put(1, "xx")}, []api.Edit{ed(2, 4, "-")}, []api.Edit{ed(1, 2, "x-")}},
		{"abc", []api.Edit{put(1, "xyz")}, []api.Edit{ed(2, 3, "")}, []api.Edit{put(1, "xz")}},
		{"abc", []api.Edit{put(1, "xyz")}, []api.Edit{ed(1, 4, "")}, nil},
		{"abc", []api.Edit{put(1, "x")}, []api.Edit{put(1, "y"), put(2, "z")}, []api.Edit{put(1, "yxz")}},
		{"abcdef", []api.Edit{ed(1, 2, "")}, []api.Edit{ed(1, 2, "")}, []api.Edit{ed(1, 3, "")}},
		{"abcdef", []api.Edit{ed(1, 2, "x"), ed(3, 4, "y")}, []api.Edit{ed(2, 3, "z"), put(6, "w")}, []api.Edit{ed(1, 4, "xzy"), put(6, "w")}},
		{"abcdef", []api.Edit{ed(0, 1, "xxx")}, []api.Edit{ed(0, 3, "a")}, nil},
	} {
		got, e := Then(x.text, x.first, x.then)
		if e != api.OK || !slices.Equal(got, x.want) {
			t.Errorf("Then %q %v %v: %v %d, not %v", x.text, x.first, x.then, got, e, x.want)
		}
	}
}

// P3.5: the second edits are to what the first ones make, not to the text; the first ones' error comes first.
func TestThenErrors(t *testing.T) {
	grow, shrink := []api.Edit{put(0, "xyz")}, []api.Edit{ed(0, 2, "")}
	long := []api.Edit{put(1, strings.Repeat("x", 65535))}
	for _, x := range []struct {
		first, then []api.Edit
		want        api.Errno
	}{
		{grow, []api.Edit{put(6, "")}, api.OK},
		{grow, []api.Edit{put(7, "")}, api.ErrRange},
		{shrink, []api.Edit{put(1, "")}, api.OK},
		{shrink, []api.Edit{put(2, "")}, api.ErrRange},
		{shrink, long, api.OK},
		{nil, long, api.ErrLong},
		{[]api.Edit{put(4, "")}, long, api.ErrRange},
		{[]api.Edit{put(2, ""), put(1, "")}, []api.Edit{put(9, "")}, api.ErrOrder},
		{grow, []api.Edit{put(2, ""), put(1, "")}, api.ErrOrder},
	} {
		got, e := Then("abc", x.first, x.then)
		if e != x.want || e != api.OK && len(got) != 0 {
			t.Errorf("Then %s: %d, not %d", told("abc", x.first, x.then), e, x.want)
		}
	}
}

// each makes so many edits of one, each so many bytes behind the one ahead of it.
func each(n, step int, e api.Edit) []api.Edit {
	var list []api.Edit
	for i := range n {
		list = append(list, ed(e.From+i*step, e.To+i*step, e.Text))
	}
	return list
}

// P3.5: more edits than may be are refused, if they are needed.
func TestThenTooMany(t *testing.T) {
	text := strings.Repeat("abcdefgh", 4500)
	first := each(4096, 8, put(0, "-"))
	end := len(text) + 4096
	if got, e := Then(text, first, []api.Edit{put(end, "+")}); len(got) != 0 || e != api.ErrLong {
		t.Errorf("one too many: %d edits, %d", len(got), e)
	}
	if got, e := Then(text, first, each(4096, 9, put(4, "+"))); len(got) != 0 || e != api.ErrLong {
		t.Errorf("twice as many: %d edits, %d", len(got), e)
	}
	heldThen(t, text, first[:4095], []api.Edit{put(len(text)+4095, "+")})
	heldThen(t, text, first, each(4096, 9, put(0, "+")))
	heldThen(t, text, first, []api.Edit{ed(0, 1, ""), put(end, "+")})
	heldThen(t, text, first, []api.Edit{ed(9*4095-2, 9*4095+3, "+")})
}

// P3.5: edits with few bytes between them become one, if there would be too many, and they cost no more than both did.
func TestThenFewer(t *testing.T) {
	text := strings.Repeat("abcdefgh", 4500)
	first := each(4096, 8, ed(2, 3, "---"))
	then := each(4096, 10, ed(3, 5, ""))
	then[4095] = put(len(text)+2*4096, "+")
	heldThen(t, text, first, then)
	heldThen(t, strings.Repeat("a", 40000), each(4096, 8, ed(2, 3, "")), []api.Edit{ed(35000, 35001, "")})
	then = append(each(2, 10, ed(4, 5, "")), put(len(text)+2*4096, "+"))
	if got, e := Then(text, first, then); len(got) != 0 || e != api.ErrLong {
		t.Errorf("too dear: %d edits, %d", len(got), e)
	}
}
