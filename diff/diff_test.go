package diff

import (
	"math"
	"slices"
	"strings"
	"testing"
	"unsafe"

	"caulker/api"
	"caulker/edit"
	"caulker/span"
)

func ed(from, to int, s string) api.Edit {
	return api.Edit{Span: api.Span{From: from, To: to}, Text: s}
}

// words are all texts of at most so many of these letters.
func words(letters string, most int) []string {
	all := []string{""}
	for from := 0; most > 0; most-- {
		to := len(all)
		for _, w := range all[from:to] {
			for i := range letters {
				all = append(all, w+letters[i:i+1])
			}
		}
		from = to
	}
	return all
}

// distance is the fewest bytes to take away and to put in, worked out for all beginnings of both texts.
func distance(a, b string) int {
	above := make([]int, len(b)+1)
	for j := range above {
		above[j] = j
	}
	for i := range len(a) {
		row := []int{i + 1}
		for j := range len(b) {
			n := min(above[j+1], row[j]) + 1
			if a[i] == b[j] {
				n = min(n, above[j])
			}
			row = append(row, n)
		}
		above = row
	}
	return above[len(b)]
}

// held asks Bytes and Far of two texts that are so far apart, and holds what they answer to the document's words.
func held(t *testing.T, a, b string, far int) {
	t.Helper()
	name := a[:min(len(a), 20)] + " | " + b[:min(len(b), 20)]
	list, near, e := Bytes(a, b)
	if e != api.OK || near != (far <= 512) {
		t.Fatalf("Bytes %q: %v %d", name, near, e)
	}
	if s, e := edit.Apply(a, list...); e != api.OK || s != b {
		t.Fatalf("Bytes %q: other than b is made: %d", name, e)
	}
	n, ok := Far(a, b)
	if !near {
		if n != 0 || ok || len(list) != 1 || list[0] != whole(a, b) {
			t.Fatalf("Bytes %q: %d edits, %d %v", name, len(list), n, ok)
		}
		return
	}
	if n != far || !ok || edit.Cost(list...) != far {
		t.Fatalf("Bytes %q: %d, Far %d %v, not %d", name, edit.Cost(list...), n, ok, far)
	}
	for i, x := range list {
		if i > 0 && list[i-1].To >= x.From || x.Text == a[x.From:x.To] {
			t.Fatalf("Bytes %q: %v", name, list)
		}
	}
	if far == len(b)-len(a) && slices.ContainsFunc(list, func(x api.Edit) bool { return x.From != x.To }) {
		t.Fatalf("Bytes %q: %v takes away", name, list)
	}
}

// whole is the one edit of texts that are too far apart.
func whole(a, b string) api.Edit {
	n := 0
	for n < min(len(a), len(b)) && a[n] == b[n] {
		n++
	}
	m := 0
	for m < min(len(a), len(b))-n && a[len(a)-m-1] == b[len(b)-m-1] {
		m++
	}
	return ed(n, len(a)-m, b[n:len(b)-m])
}

// P4.1 to P4.3, of all short texts
func TestShort(t *testing.T) {
	for _, letters := range []struct {
		list string
		most int
	}{{"ab", 6}, {"abc", 4}, {"a\xff\x00", 4}} {
		all := words(letters.list, letters.most)
		for _, a := range all {
			for _, b := range all {
				held(t, a, b, distance(a, b))
			}
		}
	}
}

// P4.1 to P4.3, of longer texts, some as near as may be and some not
func TestLonger(t *testing.T) {
	var next uint32 = 11
	roll := func(n int) int {
		next = next*1664525 + 1013904223
		return int(next>>16) % n
	}
	for range 60 {
		kinds := 2 + roll(20)
		var a, b strings.Builder
		for range 200 + roll(600) {
			a.WriteByte('a' + byte(roll(kinds)))
		}
		often := 1 + roll(12)
		for i := range a.Len() {
			switch {
			case roll(often+3) > 2 || often > 8 && roll(9) > 0:
				b.WriteByte(a.String()[i])
			case roll(2) > 0:
				b.WriteByte('a' + byte(roll(kinds)))
			}
		}
		held(t, a.String(), b.String(), distance(a.String(), b.String()))
	}
}

// P4.1 to P4.3: as far as is sought, and a byte farther.
func TestFarthest(t *testing.T) {
	if MaxFar != 512 || MaxSide != 16384 {
		t.Error("limits")
	}
	x, y := strings.Repeat("x", 600), strings.Repeat("y", 600)
	for _, p := range []struct {
		a, b string
		far  int
	}{
		{x[:512], "", 512},
		{"", x[:512], 512},
		{x[:513], "", 513},
		{"", x[:513], 513},
		{x[:256], y[:256], 512},
		{x[:257], y[:256], 513},
		{x[:256], y[:257], 513},
		{"ab" + x[:256] + "cd", "ab" + y[:256] + "cd", 512},
		{"ab" + x[:256] + "cd", "ab" + y[:257] + "cd", 513},
		{"aab" + x, "aab" + y + "aab", 1203},
		{strings.Repeat("ab", 300), strings.Repeat("ba", 300), 2},
		{strings.Repeat("ac", 256), strings.Repeat("bc", 256), 512},
		{strings.Repeat("ac", 256) + "a", strings.Repeat("bc", 256) + "b", 514},
		{x + "a", x + x[:512] + "a", 512},
		{x + "a", x + x[:513] + "a", 513},
		{x + x[:513] + "a", x + "a", 513},
	} {
		held(t, p.a, p.b, p.far)
		held(t, p.b, p.a, p.far)
	}
}

// P4.1: of texts that are too far apart, what they have alike at the beginning is kept ahead of what they have at the end.
func TestWhole(t *testing.T) {
	x := strings.Repeat("x", 600)
	for _, p := range []struct {
		a, b string
		want api.Edit
	}{
		{"aba", "aba" + x + "ba", ed(3, 3, x+"ba")},
		{"aba" + x + "ba", "aba", ed(3, 605, "")},
		{"aa", "a" + x + "aa", ed(1, 1, x+"a")},
		{x + "ab", "zab", ed(0, 600, "z")},
	} {
		list, near, e := Bytes(p.a, p.b)
		if e != api.OK || near || len(list) != 1 || list[0] != p.want {
			t.Errorf("Bytes %.10q: %d edits, %v %d", p.a, len(list), near, e)
		}
	}
}

// P4.1 and P4.3: the longest texts, and those that are too long.
func TestLong(t *testing.T) {
	long := strings.Repeat("ab", 8192)
	held(t, long, long, 0)
	held(t, long, long[1:], 1)
	held(t, long[:8000]+"c"+long[8000:16383], long, 2)
	held(t, long, strings.Repeat("c", 16384), 32768)
	held(t, strings.Repeat("a", 16384), strings.Repeat("a", 15873)+"b", 512)
	held(t, strings.Repeat("a", 16384), strings.Repeat("a", 15872)+"b", 513)
	for _, p := range [][2]string{{long + "a", long}, {long, long + "a"}, {long + "a", long + "a"}, {long + long, ""}, {"", long + long}} {
		list, near, e := Bytes(p[0], p[1])
		if len(list) != 0 || near || e != api.ErrLong {
			t.Errorf("Bytes of %d and %d: %v %d", len(p[0]), len(p[1]), near, e)
		}
		if n, ok := Far(p[0], p[1]); n != 0 || ok {
			t.Errorf("Far of %d and %d: %d %v", len(p[0]), len(p[1]), n, ok)
		}
	}
}

// P4.4: the runs of bytes of which none is taken away.
func TestKept(t *testing.T) {
	text := "abcde"
	var all []api.Edit
	for from := -1; from <= 6; from++ {
		for to := -1; to <= 6; to++ {
			all = append(all, ed(from, to, "x"[:(from&1)]))
		}
	}
	for _, a := range all {
		for _, b := range all {
			wantE := edit.Check(5, a, b)
			var want []api.Span
			for i := 0; i < 5 && wantE == api.OK; i++ {
				if a.From <= i && i < a.To || b.From <= i && i < b.To {
					continue
				}
				if n := len(want); n > 0 && want[n-1].To == i {
					want[n-1].To++
				} else {
					want = append(want, api.Span{From: i, To: i + 1})
				}
			}
			if got, e := Kept(text, a, b); e != wantE || !slices.Equal(got, want) {
				t.Fatalf("Kept %v %v: %v %d, not %v %d", a, b, got, e, want, wantE)
			}
		}
	}
}

// P4.4 at the bounds, and of wrong edits
func TestKeptBounds(t *testing.T) {
	long := strings.Repeat("x", span.MaxText+1)
	whole := []api.Span{{From: 0, To: span.MaxText}}
	for i, x := range []struct {
		text  string
		list  []api.Edit
		want  []api.Span
		wantE api.Errno
	}{
		{"", nil, nil, api.OK},
		{"", []api.Edit{ed(0, 0, "x")}, nil, api.OK},
		{"abc", []api.Edit{ed(0, 3, "")}, nil, api.OK},
		{"abcdef", []api.Edit{ed(0, 1, ""), ed(3, 3, "x"), ed(3, 3, "")}, []api.Span{{From: 1, To: 6}}, api.OK},
		{"abcdef", []api.Edit{ed(1, 2, ""), ed(2, 2, "x"), ed(2, 3, "")}, []api.Span{{From: 0, To: 1}, {From: 3, To: 6}}, api.OK},
		{long[1:], nil, whole, api.OK},
		{long[1:], []api.Edit{ed(5, 5, long[1:])}, whole, api.OK},
		{long, nil, nil, api.ErrRange},
		{long, []api.Edit{ed(0, 1, "")}, nil, api.ErrRange},
		{"abc", []api.Edit{ed(0, 1, long)}, nil, api.ErrLong},
		{"abc", slices.Repeat([]api.Edit{ed(1, 1, "")}, 4097), nil, api.ErrLong},
		{"abc", slices.Repeat([]api.Edit{ed(1, 1, "y")}, 4096), []api.Span{{From: 0, To: 3}}, api.OK},
		{"abc", []api.Edit{ed(2, 3, ""), ed(1, 1, "")}, nil, api.ErrOrder},
		{"abc", []api.Edit{ed(math.MinInt, math.MaxInt, "")}, nil, api.ErrRange},
	} {
		if got, e := Kept(x.text, x.list...); e != x.wantE || !slices.Equal(got, x.want) {
			t.Errorf("Kept %d: %v %d, not %v %d", i, got, e, x.want, x.wantE)
		}
	}
}

// The chapter's examples.
func TestExamples(t *testing.T) {
	list, near, e := Bytes("C x = null;", "C? x = null;")
	if e != api.OK || !near || len(list) != 1 || list[0] != ed(1, 1, "?") {
		t.Errorf("Bytes: %v", list)
	}
	if n, ok := Far("abc", "adc"); n != 2 || !ok {
		t.Errorf("Far: %d", n)
	}
}

// P2: what is answered shares no memory with an argument or with another answer; lists stay as they were.
func TestAnswersAreNew(t *testing.T) {
	bytes := []byte("abcdefghij" + strings.Repeat("z", 600))
	view := func(from, to int) string { return unsafe.String(&bytes[from], to-from) }
	near, _, _ := Bytes(view(0, 5), view(2, 9))
	again, _, _ := Bytes(view(0, 5), view(2, 9))
	far, _, _ := Bytes("ab", view(0, 610))
	back := []api.Edit{ed(1, 2, "x"), ed(2, 2, "y"), ed(3, 4, ""), ed(9, 9, "spare")}
	was := slices.Clone(back)
	one, _ := Kept("abcdef", back[:3]...)
	two, _ := Kept("abcdef", back[:3]...)
	for i := range bytes {
		bytes[i] = '-'
	}
	if s, e := edit.Apply("abcde", near...); e != api.OK || s != "cdefghi" {
		t.Errorf("Bytes: %q", s)
	}
	if len(far) != 1 || far[0].Text != "cdefghij"+strings.Repeat("z", 600) {
		t.Error("Bytes of texts far apart")
	}
	for i := range near[:cap(near)] {
		near[:cap(near)][i] = ed(7, 7, "")
	}
	for i := range one[:cap(one)] {
		one[:cap(one)][i] = api.Span{From: 7, To: 7}
	}
	if s, e := edit.Apply("abcde", again...); e != api.OK || s != "cdefghi" {
		t.Errorf("Bytes: %q", s)
	}
	if !slices.Equal(back, was) || !slices.Equal(two, []api.Span{{From: 0, To: 1}, {From: 2, To: 3}, {From: 4, To: 6}}) {
		t.Error("memory is shared")
	}
}
