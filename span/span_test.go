package span

import (
	"cmp"
	"math"
	"slices"
	"strings"
	"testing"
	"unsafe"

	"caulker/api"
)

// wild are numbers around each bound, and those whose sums and differences wrap round.
var wild = []int{math.MinInt, math.MinInt + 1, -MaxText - 1, -MaxText, -1, 0, 1, 2, 5, MaxText - 1, MaxText, MaxText + 1, math.MaxInt - 1, math.MaxInt}

func sp(from, to int) api.Span { return api.Span{From: from, To: to} }

// wildSpans are all pairs of wild numbers.
func wildSpans() []api.Span {
	var out []api.Span
	for _, a := range wild {
		for _, b := range wild {
			out = append(out, sp(a, b))
		}
	}
	return out
}

// allowed is what the document says of a span that may be, step by step.
func allowed(s api.Span) bool {
	if s.From < 0 {
		return false
	}
	if s.To < s.From {
		return false
	}
	return s.To <= 65536
}

// small are all spans from -1 to top, those that may not be among them.
func small(top int) []api.Span {
	var out []api.Span
	for a := -1; a <= top; a++ {
		for b := -1; b <= top; b++ {
			out = append(out, sp(a, b))
		}
	}
	return out
}

// within tells of a byte whether it is in a span.
func within(s api.Span, i int) bool { return s.From <= i && i < s.To }

// P1.1
func TestOfCheckLen(t *testing.T) {
	if MaxText != 65536 {
		t.Error("MaxText")
	}
	for _, s := range wildSpans() {
		want, wantE := s, api.OK
		if !allowed(s) {
			want, wantE = api.Span{}, api.ErrRange
		}
		if got, e := Of(s.From, s.To); got != want || e != wantE {
			t.Errorf("Of %v: %v %v", s, got, e)
		}
		size := 0
		if allowed(s) {
			size = s.To - s.From
		}
		if Len(s) != size {
			t.Errorf("Len %v: %d", s, Len(s))
		}
		for _, n := range wild {
			want := api.ErrRange
			if allowed(s) && n >= 0 && n <= 65536 && s.To <= n {
				want = api.OK
			}
			if e := Check(s, n); e != want {
				t.Errorf("Check %v of %d: %v", s, n, e)
			}
		}
	}
}

// P1.2
func TestCompare(t *testing.T) {
	for _, a := range wildSpans() {
		for _, b := range wildSpans() {
			want := cmp.Or(cmp.Compare(a.From, b.From), cmp.Compare(a.To, b.To))
			if got := Compare(a, b); cmp.Compare(got, 0) != want {
				t.Fatalf("Compare %v %v: %d", a, b, got)
			}
		}
	}
}

// P1.2
func TestHoldsApartMeet(t *testing.T) {
	for _, a := range small(5) {
		for _, b := range small(5) {
			both := allowed(a) && allowed(b)
			if got := Holds(a, b); got != (both && a.From <= b.From && b.To <= a.To) {
				t.Errorf("Holds %v %v: %v", a, b, got)
			}
			same := a.From == b.From && a.To == b.To && a.From == a.To
			if got := Apart(a, b); got != (both && !same && (a.To <= b.From || b.To <= a.From)) {
				t.Errorf("Apart %v %v: %v", a, b, got)
			}
			meetAsSets(t, a, b)
		}
	}
}

// meetAsSets holds Meet against both spans' bytes, one by one.
func meetAsSets(t *testing.T, a, b api.Span) {
	t.Helper()
	got, ok := Meet(a, b)
	some := false
	for i := 0; i < 6 && allowed(a) && allowed(b); i++ {
		in := within(a, i) && within(b, i)
		some = some || in
		if in != within(got, i) {
			t.Errorf("Meet %v %v: %v", a, b, got)
		}
	}
	if ok != some || !ok && got != (api.Span{}) {
		t.Errorf("Meet %v %v: %v %v", a, b, got, ok)
	}
}

// P1.2, at the bound: a span that may not be takes part in nothing.
func TestPairsBeyondTheBound(t *testing.T) {
	long, whole, part := sp(0, MaxText+1), sp(0, MaxText), sp(10, 20)
	if Holds(long, part) || !Holds(whole, part) || Holds(part, long) {
		t.Error("Holds")
	}
	if Apart(part, sp(20, MaxText+1)) || !Apart(part, sp(20, MaxText)) || Apart(sp(-5, 0), part) {
		t.Error("Apart")
	}
	if s, ok := Meet(long, part); ok || s != (api.Span{}) {
		t.Error("Meet")
	}
	if s, ok := Meet(part, whole); !ok || s != part {
		t.Error("Meet of the whole")
	}
}

// P1.3
func TestCover(t *testing.T) {
	if s, ok := Cover(); ok || s != (api.Span{}) {
		t.Error("Cover of none")
	}
	for _, a := range small(3) {
		one, ok := Cover(a)
		if ok != allowed(a) || ok && one != a || !ok && one != (api.Span{}) {
			t.Errorf("Cover %v: %v %v", a, one, ok)
		}
		for _, b := range small(3) {
			for _, c := range small(3) {
				got, ok := Cover(a, b, c)
				want := sp(min(a.From, b.From, c.From), max(a.To, b.To, c.To))
				may := allowed(a) && allowed(b) && allowed(c)
				if !may {
					want = api.Span{}
				}
				if ok != may || got != want {
					t.Fatalf("Cover %v %v %v: %v %v", a, b, c, got, ok)
				}
			}
		}
	}
	if _, ok := Cover(sp(1, 2), sp(3, MaxText+1)); ok {
		t.Error("Cover of one that is too long")
	}
}

// P1.3
func TestSum(t *testing.T) {
	for _, x := range []struct {
		list []api.Span
		want int
	}{
		{nil, 0},
		{[]api.Span{sp(2, 5)}, 3},
		{[]api.Span{sp(2, 5), sp(4, 9), sp(4, 4)}, 8},
		{[]api.Span{sp(2, 5), sp(9, 4), sp(-1, 7), sp(0, MaxText+1)}, 3},
		{[]api.Span{sp(0, MaxText), sp(0, MaxText)}, 2 * MaxText},
	} {
		if got := Sum(x.list...); got != x.want {
			t.Errorf("Sum %v: %d", x.list, got)
		}
	}
}

// P1.4
func TestMove(t *testing.T) {
	for _, s := range wildSpans() {
		for _, by := range wild {
			want, wantE := api.Span{}, api.ErrRange
			if allowed(s) && by >= -65536 && by <= 65536 && s.From+by >= 0 && s.To+by <= 65536 {
				want, wantE = sp(s.From+by, s.To+by), api.OK
			}
			if got, e := Move(s, by); got != want || e != wantE {
				t.Errorf("Move %v by %d: %v %v", s, by, got, e)
			}
		}
	}
	if s, e := Move(sp(5, 2), 3); e != api.ErrRange || s != (api.Span{}) {
		t.Error("Move of one that may not be")
	}
}

// P1.4
func TestText(t *testing.T) {
	text := "abc\xff\ndefghij"
	for _, s := range small(len(text) + 1) {
		want, wantE := "", api.ErrRange
		if allowed(s) && s.To <= len(text) {
			want, wantE = text[s.From:s.To], api.OK
		}
		if got, e := Text(text, s); got != want || e != wantE {
			t.Errorf("Text %v: %q %v", s, got, e)
		}
	}
	for _, s := range wildSpans() {
		if got, e := Text("", s); got != "" || (e == api.OK) != (s == api.Span{}) {
			t.Errorf("Text of nothing %v: %q %v", s, got, e)
		}
	}
	long := strings.Repeat("x", MaxText)
	if s, e := Text(long, sp(0, MaxText)); e != api.OK || s != long {
		t.Error("Text of the longest one")
	}
	if s, e := Text(long+"x", sp(0, 1)); e != api.ErrRange || s != "" {
		t.Error("Text of one that is too long")
	}
}

// lists are all lists of up to three spans from -1 to top.
func lists(top int) [][]api.Span {
	all := [][]api.Span{nil}
	for _, a := range small(top) {
		all = append(all, []api.Span{a})
		for _, b := range small(top) {
			all = append(all, []api.Span{a, b})
			for _, c := range small(top) {
				all = append(all, []api.Span{a, b, c})
			}
		}
	}
	return all
}

// inOrder is what the document says of Sorted.
func inOrder(list []api.Span) bool {
	for i, s := range list {
		if !allowed(s) {
			return false
		}
		if i > 0 && (list[i-1].To > s.From || list[i-1] == s) {
			return false
		}
	}
	return true
}

// P1.5
func TestSorted(t *testing.T) {
	for _, list := range lists(3) {
		if got := Sorted(list...); got != inOrder(list) {
			t.Fatalf("Sorted %v: %v", list, got)
		}
	}
	for _, s := range wildSpans() {
		if Sorted(s) != allowed(s) {
			t.Errorf("Sorted %v", s)
		}
	}
	if Sorted(sp(1, 2), sp(3, MaxText+1)) || !Sorted(sp(1, 2), sp(3, MaxText)) {
		t.Error("Sorted at the bound")
	}
}

// gapsByBytes: which runs of bytes are in none of some sorted spans; any of them, an empty one too, ends a run.
func gapsByBytes(n int, list []api.Span) []api.Span {
	var out []api.Span
	open := false
	for i := range n {
		in := false
		for _, s := range list {
			in = in || within(s, i)
			if s.From == i {
				open = false
			}
		}
		switch {
		case in:
			open = false
		case open:
			out[len(out)-1].To = i + 1
		default:
			out, open = append(out, sp(i, i+1)), true
		}
	}
	return out
}

// P1.5
func TestGaps(t *testing.T) {
	for _, list := range lists(3) {
		for n := -1; n <= 5; n++ {
			wantE := api.OK
			for _, s := range list {
				if n < 0 || !allowed(s) || s.To > n {
					wantE = api.ErrRange
				}
			}
			switch {
			case n < 0:
				wantE = api.ErrRange
			case wantE == api.OK && !inOrder(list):
				wantE = api.ErrOrder
			}
			var want []api.Span
			if wantE == api.OK {
				want = gapsByBytes(n, list)
			}
			if got, e := Gaps(n, list...); e != wantE || !slices.Equal(got, want) {
				t.Fatalf("Gaps %d %v: %v %v, not %v %v", n, list, got, e, want, wantE)
			}
		}
	}
}

// P1.5, of numbers beyond the bounds
func TestGapsBounds(t *testing.T) {
	for _, n := range wild {
		got, e := Gaps(n)
		switch {
		case n < 0 || n > MaxText:
			if e != api.ErrRange || len(got) != 0 {
				t.Errorf("Gaps %d: %v %v", n, got, e)
			}
		case n == 0:
			if e != api.OK || len(got) != 0 {
				t.Errorf("Gaps 0: %v %v", got, e)
			}
		default:
			if e != api.OK || !slices.Equal(got, []api.Span{sp(0, n)}) {
				t.Errorf("Gaps %d: %v %v", n, got, e)
			}
		}
	}
	if l, e := Gaps(MaxText+1, sp(4, 5), sp(1, 2)); e != api.ErrRange || len(l) != 0 {
		t.Error("Gaps: the range comes ahead of the order")
	}
	if l, e := Gaps(10, sp(4, 5), sp(1, 2), sp(9, 11)); e != api.ErrRange || len(l) != 0 {
		t.Error("Gaps: the range of the last one comes ahead of the order")
	}
	if l, e := Gaps(10, sp(4, 4), sp(4, 4)); e != api.ErrOrder || len(l) != 0 {
		t.Error("Gaps: the same empty span twice")
	}
}

// The chapter's examples.
func TestExamples(t *testing.T) {
	a, b := sp(2, 5), sp(5, 9)
	if !Apart(a, b) || !Apart(b, a) {
		t.Error("Apart")
	}
	if s, ok := Cover(a, b); !ok || s != sp(2, 9) {
		t.Error("Cover")
	}
	if s, e := Text("abcdefghij", a); e != api.OK || s != "cde" {
		t.Error("Text")
	}
}

// P1: no call panics, whatever it is given; what each answers is held against the document above.
func TestNoPanic(t *testing.T) {
	all := wildSpans()
	for _, a := range all {
		for _, b := range all {
			Holds(a, b)
			Apart(a, b)
			Meet(a, b)
			Cover(a, b)
			Sum(a, b)
			Sorted(a, b)
			Gaps(MaxText, a, b)
		}
		for _, n := range wild {
			Gaps(n, a)
			Text("text", sp(n, a.To))
		}
	}
	Cover(all...)
	Sum(all...)
	Sorted(all...)
	Gaps(MaxText, all...)
}

// P2: lists and their spare room stay as they were, whether the call is refused or not.
func TestListsStay(t *testing.T) {
	for _, n := range []int{3, 10, 30, MaxText + 1} {
		for _, from := range []int{0, 1} {
			back := []api.Span{sp(7, 8), sp(1, 2), sp(4, 6), sp(77, 88), sp(99, 100)}
			was := slices.Clone(back)
			list := back[from:3]
			Gaps(n, list...)
			Sorted(list...)
			Cover(list...)
			Sum(list...)
			if !slices.Equal(back, was) {
				t.Errorf("%d: the list changed: %v", n, back)
			}
		}
	}
}

// P2: an answered list shares no memory with an argument or with another answer.
func TestGapsAreNew(t *testing.T) {
	list := []api.Span{sp(1, 2), sp(4, 6), sp(50, 60)}[:2]
	a, _ := Gaps(10, list...)
	b, _ := Gaps(10, list...)
	want := slices.Clone(b)
	for i := range a[:cap(a)] {
		a[:cap(a)][i] = sp(-7, -7)
	}
	if !slices.Equal(b, want) || !slices.Equal(list[:3], []api.Span{sp(1, 2), sp(4, 6), sp(50, 60)}) {
		t.Error("memory is shared")
	}
}

// P2: an answered text is new memory.
func TestTextIsNew(t *testing.T) {
	bytes := []byte("abcdefghij")
	s, e := Text(unsafe.String(&bytes[0], len(bytes)), sp(2, 5))
	bytes[3] = 'X'
	if e != api.OK || s != "cde" {
		t.Errorf("Text: %q", s)
	}
}
