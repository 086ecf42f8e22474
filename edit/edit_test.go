package edit

import (
	"math"
	"slices"
	"strings"
	"testing"
	"unsafe"

	"caulker/api"
)

func ed(from, to int, s string) api.Edit {
	return api.Edit{Span: api.Span{From: from, To: to}, Text: s}
}

func put(at int, s string) api.Edit { return ed(at, at, s) }

// wild are numbers around each bound, and those whose sums and differences wrap round.
var wild = []int{math.MinInt, math.MinInt + 1, -65537, -65536, -1, 0, 1, 2, 5, 6, 65535, 65536, 65537, math.MaxInt - 1, math.MaxInt}

// every are all edits from -1 to n+1 with these texts, those that may not be among them.
func every(n int, texts ...string) []api.Edit {
	var out []api.Edit
	for from := -1; from <= n+1; from++ {
		for to := -1; to <= n+1; to++ {
			for _, s := range texts {
				out = append(out, ed(from, to, s))
			}
		}
	}
	return out
}

// right are the lists of at most two edits that fit a text, texts of edits from these.
func right(text string, texts ...string) [][]api.Edit {
	lists := [][]api.Edit{nil}
	all := every(len(text), texts...)
	for _, a := range all {
		if checked(len(text), []api.Edit{a}) != api.OK {
			continue
		}
		lists = append(lists, []api.Edit{a})
		for _, b := range all {
			if list := []api.Edit{a, b}; checked(len(text), list) == api.OK {
				lists = append(lists, list)
			}
		}
	}
	return lists
}

// checked is what the document says of Check, step by step.
func checked(n int, list []api.Edit) api.Errno {
	if len(list) > 4096 {
		return api.ErrLong
	}
	for _, e := range list {
		switch {
		case len(e.Text) > 65536:
			return api.ErrLong
		case e.From < 0, e.To < e.From, e.To > 65536, n < 0, n > 65536, e.To > n:
			return api.ErrRange
		}
	}
	for i := 1; i < len(list); i++ {
		if list[i-1].To > list[i].From {
			return api.ErrOrder
		}
	}
	return api.OK
}

// changed puts edits into a text one by one, the last one first, so that no place moves.
func changed(text string, list []api.Edit) string {
	for i := len(list) - 1; i >= 0; i-- {
		e := list[i]
		text = text[:e.From] + e.Text + text[e.To:]
	}
	return text
}

// P3.1
func TestCheckLimits(t *testing.T) {
	if MaxEdits != 4096 || MaxNew != 65536 {
		t.Error("limits")
	}
	many := slices.Repeat([]api.Edit{put(2, "x")}, 4097)
	long, longest := strings.Repeat("x", 65537), strings.Repeat("x", 65536)
	for _, x := range []struct {
		n    int
		list []api.Edit
		want api.Errno
	}{
		{5, nil, api.OK},
		{5, many[:4096], api.OK},
		{5, many, api.ErrLong},
		{1, many, api.ErrLong},
		{5, []api.Edit{put(0, longest)}, api.OK},
		{5, []api.Edit{put(0, long)}, api.ErrLong},
		{5, []api.Edit{put(9, long)}, api.ErrLong},
		{5, []api.Edit{put(9, ""), put(0, long)}, api.ErrRange},
		{5, []api.Edit{put(0, long), put(9, "")}, api.ErrLong},
		{5, []api.Edit{put(3, ""), put(1, ""), put(0, long)}, api.ErrLong},
		{5, []api.Edit{put(3, ""), put(1, ""), put(6, "")}, api.ErrRange},
		{5, []api.Edit{put(3, ""), put(1, ""), put(5, "")}, api.ErrOrder},
		{5, []api.Edit{put(3, "a"), put(3, "b"), put(3, "")}, api.OK},
		{5, []api.Edit{put(1, "a"), ed(1, 3, "b"), put(3, "c"), ed(3, 3, ""), ed(3, 5, "")}, api.OK},
		{5, []api.Edit{ed(1, 3, "b"), put(2, "c")}, api.ErrOrder},
		{5, []api.Edit{ed(1, 3, "b"), put(1, "c")}, api.ErrOrder},
		{65536, []api.Edit{ed(0, 65536, "")}, api.OK},
		{65537, []api.Edit{ed(0, 1, "")}, api.ErrRange},
		{-1, []api.Edit{put(0, "")}, api.ErrRange},
	} {
		if got := Check(x.n, x.list...); got != x.want {
			t.Errorf("Check %d, %d edits: %d, not %d", x.n, len(x.list), got, x.want)
		}
	}
}

// P3.1, of all pairs of edits
func TestCheckPairs(t *testing.T) {
	all := every(3, "", "x")
	for _, n := range []int{-1, 0, 2, 3} {
		for _, a := range all {
			for _, b := range all {
				list := []api.Edit{a, b}
				if got, want := Check(n, list...), checked(n, list); got != want {
					t.Fatalf("Check %d %v: %d, not %d", n, list, got, want)
				}
			}
		}
	}
}

// P3.1 and P1: numbers that wrap round.
func TestCheckWild(t *testing.T) {
	for _, from := range wild {
		for _, to := range wild {
			for _, n := range wild {
				list := []api.Edit{ed(from, to, "x")}
				if got, want := Check(n, list...), checked(n, list); got != want {
					t.Fatalf("Check %d %v: %d, not %d", n, list, got, want)
				}
			}
		}
	}
}

// P3.2
func TestApply(t *testing.T) {
	text := "ab\xffd"
	for _, list := range right(text, "", "x", "yz") {
		if s, e := Apply(text, list...); e != api.OK || s != changed(text, list) {
			t.Fatalf("Apply %v: %q %d", list, s, e)
		}
	}
	same := []api.Edit{put(1, "1"), put(1, "2"), ed(1, 2, "3"), put(2, "4"), put(2, "5"), put(4, "6")}
	if s, e := Apply(text, same...); e != api.OK || s != "a12345\xffd6" {
		t.Errorf("Apply at one place: %q %d", s, e)
	}
	if s, e := Apply("C x;.f", put(1, "?"), put(4, "!")); e != api.OK || s != "C? x;!.f" {
		t.Errorf("Apply: %q", s)
	}
}

// refused are texts and edits that Apply refuses, and why.
func refused() []struct {
	text string
	list []api.Edit
	want api.Errno
} {
	long := strings.Repeat("x", 65537)
	return []struct {
		text string
		list []api.Edit
		want api.Errno
	}{
		{long, nil, api.ErrLong},
		{long, []api.Edit{put(-1, "")}, api.ErrLong},
		{long, []api.Edit{ed(0, 9, "")}, api.ErrLong},
		{"abc", []api.Edit{put(4, "")}, api.ErrRange},
		{"abc", []api.Edit{ed(2, 1, "")}, api.ErrRange},
		{"abc", []api.Edit{put(math.MaxInt, "")}, api.ErrRange},
		{"abc", []api.Edit{put(2, ""), put(1, "")}, api.ErrOrder},
		{"abc", []api.Edit{put(2, long[:65536]), put(1, "")}, api.ErrOrder},
		{"abc", []api.Edit{put(1, long)}, api.ErrLong},
		{"abc", []api.Edit{put(1, long[:65534])}, api.ErrLong},
		{long[:65536], []api.Edit{put(1, "y")}, api.ErrLong},
		{long[:65536], []api.Edit{ed(1, 2, ""), put(9, "yz")}, api.ErrLong},
		{"abc", slices.Repeat([]api.Edit{put(2, "")}, 4097), api.ErrLong},
		{"abc", slices.Repeat([]api.Edit{put(2, long[:65536])}, 4096), api.ErrLong},
	}
}

// P3.2 to P3.6: what Apply refuses, and so each other call; every other result is zero.
func TestRefused(t *testing.T) {
	for i, x := range refused() {
		if s, e := Apply(x.text, x.list...); s != "" || e != x.want {
			t.Errorf("%d: Apply: %d, not %d", i, e, x.want)
		}
		if l, e := Invert(x.text, x.list...); len(l) != 0 || e != x.want {
			t.Errorf("%d: Invert: %d, not %d", i, e, x.want)
		}
		if l, e := Tidy(x.text, x.list...); len(l) != 0 || e != x.want {
			t.Errorf("%d: Tidy: %d, not %d", i, e, x.want)
		}
		for _, at := range []int{-1, 0, 2, math.MaxInt} {
			if n, e := Move(x.text, at, true, x.list...); n != 0 || e != x.want {
				t.Errorf("%d: Move: %d, not %d", i, e, x.want)
			}
		}
		if l, e := Then(x.text, x.list, []api.Edit{put(-1, "")}); len(l) != 0 || e != x.want {
			t.Errorf("%d: Then, first: %d, not %d", i, e, x.want)
		}
		if l, e := Then(x.text, nil, x.list); len(l) != 0 || e != x.want {
			t.Errorf("%d: Then, then: %d, not %d", i, e, x.want)
		}
	}
}

// P3.2: the longest texts are made, and of the longest ones.
func TestApplyLongest(t *testing.T) {
	long := strings.Repeat("x", 65536)
	if s, e := Apply("abc", ed(0, 3, long)); e != api.OK || s != long {
		t.Error("from a short one")
	}
	if s, e := Apply(long, ed(0, 65536, "")); e != api.OK || s != "" {
		t.Error("to nothing")
	}
	if s, e := Apply(long, put(0, "ab"), ed(9, 11, "")); e != api.OK || s != "ab"+long[2:] {
		t.Error("as long as it was")
	}
	if s, e := Apply(long); e != api.OK || s != long {
		t.Error("no edits")
	}
}

// P3.3
func TestInvert(t *testing.T) {
	text := "abbd"
	for _, list := range right(text, "", "b", "yz") {
		made := changed(text, list)
		back, e := Invert(text, list...)
		if e != api.OK || len(back) != len(list) {
			t.Fatalf("Invert %v: %v %d", list, back, e)
		}
		if s, e := Apply(made, back...); e != api.OK || s != text {
			t.Fatalf("Invert %v: %v makes %q %d", list, back, s, e)
		}
		at := 0
		for i, b := range back {
			if i > 0 {
				at = back[i-1].To + list[i].From - list[i-1].To
			} else {
				at = list[0].From
			}
			if b != ed(at, at+len(list[i].Text), text[list[i].From:list[i].To]) {
				t.Fatalf("Invert %v: %v", list, back)
			}
		}
	}
	long := strings.Repeat("x", 65536)
	if l, e := Invert(long, ed(0, 65536, "ab")); e != api.OK || len(l) != 1 || l[0] != ed(0, 2, long) {
		t.Error("Invert of the longest")
	}
}

// P3.6: what the document says of Move, by the bytes ahead of a place that are left, and those put in ahead of it.
func TestMove(t *testing.T) {
	text := "abcd"
	for _, list := range right(text, "", "x", "yz") {
		for at := -1; at <= 5; at++ {
			for _, behind := range []bool{false, true} {
				want, wantE := moved(at, behind, list), api.OK
				if at < 0 || at > 4 {
					want, wantE = 0, api.ErrRange
				}
				if n, e := Move(text, at, behind, list...); n != want || e != wantE {
					t.Fatalf("Move %d %v %v: %d %d, not %d", at, behind, list, n, e, want)
				}
			}
		}
	}
	for _, at := range wild {
		n, e := Move("ab", at, false)
		if in := 0 <= at && at <= 2; in != (e == api.OK) || !in && (n != 0 || e != api.ErrRange) || in && n != at {
			t.Errorf("Move %d: %d %d", at, n, e)
		}
	}
}

// moved counts what is left of the bytes ahead of a place, and the texts that are put in ahead of it.
func moved(at int, behind bool, list []api.Edit) int {
	n := 0
	for i := range at {
		stays := true
		for _, e := range list {
			stays = stays && (i < e.From || i >= e.To)
		}
		if stays {
			n++
		}
	}
	for _, e := range list {
		ends := e.To < at || e.To == at && (e.From < e.To || behind)
		if ends {
			n += len(e.Text)
		}
	}
	return n
}

// P3.6, written out
func TestMoveWords(t *testing.T) {
	list := []api.Edit{put(2, "!!"), ed(2, 5, "y"), put(5, "z"), ed(5, 7, "")}
	ahead := []int{0, 1, 2, 4, 4, 5, 6, 6, 7}
	behind := []int{0, 1, 4, 4, 4, 6, 6, 6, 7}
	for at := range ahead {
		if n, e := Move("abcdefgh", at, false, list...); e != api.OK || n != ahead[at] {
			t.Errorf("Move %d: %d, not %d", at, n, ahead[at])
		}
		if n, e := Move("abcdefgh", at, true, list...); e != api.OK || n != behind[at] {
			t.Errorf("Move %d behind: %d, not %d", at, n, behind[at])
		}
	}
}

// P3.6
func TestCost(t *testing.T) {
	for _, x := range []struct {
		list []api.Edit
		want int
	}{
		{nil, 0},
		{[]api.Edit{put(1, "?"), put(4, "!")}, 2},
		{[]api.Edit{ed(2, 5, "ab"), ed(0, 9, ""), put(7, "")}, 14},
		{[]api.Edit{ed(5, 2, "ab"), ed(-1, 9, "c"), ed(0, 65537, ""), ed(0, 65536, "")}, 65539},
		{[]api.Edit{ed(math.MinInt, math.MaxInt, "ab"), ed(math.MaxInt, math.MinInt, "")}, 2},
		{slices.Repeat([]api.Edit{ed(1, 2, "ab")}, 5000), 15000},
	} {
		if got := Cost(x.list...); got != x.want {
			t.Errorf("Cost: %d, not %d", got, x.want)
		}
	}
}

// calls asks each call that takes a text and edits, and answers all lists of edits that come back.
func calls(text string, list []api.Edit) [][]api.Edit {
	Check(len(text), list...)
	Apply(text, list...)
	Move(text, 1, true, list...)
	Cost(list...)
	a, _ := Invert(text, list...)
	b, _ := Tidy(text, list...)
	c, _ := Then(text, list, nil)
	d, _ := Then(text, nil, list)
	return [][]api.Edit{a, b, c, d}
}

// P2: lists and their spare room stay as they were, whether the call is refused or not.
func TestListsStay(t *testing.T) {
	for _, text := range []string{"abcdefghij", "abc", ""} {
		for _, from := range []int{0, 1} {
			back := []api.Edit{put(7, "q"), ed(1, 2, "b"), ed(2, 6, "cxf"), put(6, "g"), put(7, "h"), put(99, "i")}
			was := slices.Clone(back)
			calls(text, back[from:4])
			calls(text, back[from:2])
			if !slices.Equal(back, was) {
				t.Errorf("%q: the list changed: %v", text, back)
			}
		}
	}
}

// P2: what is answered shares no memory with an argument or with another answer, its spare room neither.
func TestAnswersAreNew(t *testing.T) {
	bytes := []byte("abcdefghijxyzvw")
	view := func(from, to int) string { return unsafe.String(&bytes[from], to-from) }
	list := []api.Edit{ed(1, 3, view(10, 12)), put(3, view(12, 13)), put(6, view(13, 15)), put(9, "")}[:3]
	was := slices.Clone(list[:4])
	first, again := calls(view(0, 10), list), calls(view(0, 10), list)
	made, _ := Apply(view(0, 10), list...)
	same, _ := Apply(view(0, 10))
	want := calls("abcdefghij", []api.Edit{ed(1, 3, "xy"), put(3, "z"), put(6, "vw")})
	for i := range bytes {
		bytes[i] = '-'
	}
	for i, l := range first {
		if !slices.Equal(l, want[i]) || len(l) == 0 {
			t.Errorf("%d: %v, not %v", i, l, want[i])
		}
		l = l[:cap(l)]
		for j := range l {
			l[j] = put(-7, "gone")
		}
	}
	for i, l := range again {
		if !slices.Equal(l, want[i]) {
			t.Errorf("%d: %v, not %v", i, l, want[i])
		}
	}
	if made != "axyzdefvwghij" || same != "abcdefghij" {
		t.Errorf("Apply: %q %q", made, same)
	}
	if list = list[:4]; list[0].Span != was[0].Span || list[3] != was[3] {
		t.Error("the list changed")
	}
}
