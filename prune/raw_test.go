package prune

import (
	"math"
	"slices"
	"strconv"
	"strings"
	"testing"
	"unsafe"

	"caulker/plan"
)

// spoil changes all of a list, its spare room too.
func spoil[T any](list []T, to T) {
	for i := range list[:cap(list)] {
		list[:cap(list)][i] = to
	}
}

// P1: changes that can't be made: nothing is left out of them, and one is needed as long as the others can't be made, either.
func TestWrong(t *testing.T) {
	far := put(math.MinInt, math.MaxInt, "x", math.MinInt)
	behind := put(len(main), len(main)+1, "", math.MaxInt)
	back := put(9, 4, "?", plan.Mark)
	late, early := put(len(main), len(main), " ", plan.Dead), put(0, 0, " ", plan.Dead)
	long := put(0, 0, strings.Repeat(" ", 1<<16+1), plan.Dead)
	for _, x := range []struct {
		what string
		list []plan.Change
		idle []int
	}{
		{"far out", []plan.Change{far}, []int{0}},
		{"behind the text", []plan.Change{early, behind}, []int{1}},
		{"backwards", []plan.Change{early, back, late}, []int{1}},
		{"not in order", []plan.Change{late, early}, []int{0, 1}},
		{"not in order, and one more", []plan.Change{late, early, late}, []int{0, 1}},
		{"one over the other", []plan.Change{put(0, 5, "class", 3), put(4, 5, "s", 3)}, []int{0, 1}},
		{"too long", []plan.Change{long, late}, []int{0}},
		{"two that are wrong", []plan.Change{far, back, late}, nil},
	} {
		if got := Idle(main, x.list); !slices.Equal(got, x.idle) {
			t.Errorf("%s: %v are idle", x.what, got)
		}
		if left, n := Prune(main, x.list); !slices.Equal(left, x.list) || n != 0 {
			t.Errorf("%s: %v, %d", x.what, left, n)
		}
		for k := range x.list {
			if Needed(main, x.list, k) == slices.Contains(x.idle, k) {
				t.Errorf("%s: needed: %d", x.what, k)
			}
		}
	}
}

// P1: texts of all kinds.
func TestTexts(t *testing.T) {
	blank := []plan.Change{put(0, 0, " ", plan.Dead)}
	for text, idle := range map[string]bool{
		"": false, "\x00": false, "\"": false, main: true, strings.Repeat(" ", 1<<16-len(main)) + main: true, strings.Repeat(" ", 1<<16+1-len(main)) + main: false, main + "class A { A f; }": false, main + "class Main { }": false,
	} {
		if got := Idle(text, blank); (len(got) == 1) != idle || Needed(text, blank, 0) == idle {
			t.Errorf("%.40q: %v", text, got)
		}
		_, ok := plan.Program(text, blank)
		left, n := Prune(text, blank)
		if want := 0; ok {
			want = 1
			if n != want || len(left) != 0 {
				t.Errorf("%.40q: %v, %d", text, left, n)
			}
		} else if n != want || !slices.Equal(left, blank) {
			t.Errorf("%.40q: %v, %d", text, left, n)
		}
		if left, n := Prune(text, nil); len(left) != 0 || n != 0 || len(Idle(text, nil)) > 0 {
			t.Errorf("%.40q: %v, %d", text, left, n)
		}
	}
}

// P27.1, P27.2: one change more than may be made at once: any one may be left out, but all stay.
func TestTooMany(t *testing.T) {
	list := make([]plan.Change, 4097)
	for i := range list {
		list[i] = put(0, 0, "", plan.Dead)
	}
	for _, k := range []int{0, 77, 4096} {
		if Needed(main, list, k) || !Needed(main, append(list, list[0]), k) {
			t.Errorf("needed: %d", k)
		}
	}
	if left, n := Prune(main, list); n != 0 || !slices.Equal(left, list) {
		t.Errorf("%d, %d are left", n, len(left))
	}
}

// P1, P27.2: many changes, of which all are needed, and none.
func TestMany(t *testing.T) {
	text, blanks := main+"class A { ", main+"class A { "
	for i := range 60 {
		text += "A<|?> f" + strconv.Itoa(i) + "; "
		blanks += "int<| > f" + strconv.Itoa(i) + "; "
	}
	made, list := cut(t, text+"}")
	if left, n := Prune(made, list); n != 0 || !slices.Equal(left, list) {
		t.Errorf("%d are left, not %d", len(left), len(list))
	}
	made, list = cut(t, blanks+"}")
	if left, n := Prune(made, list); n != 60 || len(left) != 0 || len(Idle(made, list)) != 60 {
		t.Errorf("%d, %d are left", n, len(left))
	}
}

// P2: neither text nor changes are changed or kept, and what is answered is new memory each time, its spare room too.
func TestMemory(t *testing.T) {
	text, list := cut(t, main+"class A { A<|?> f;<| > void g() { this.f<|!>.g(); } }")
	wrong := []plan.Change{list[0]}
	bytes := []byte("?!")
	list[0].Text, list[2].Text = unsafe.String(&bytes[0], 1), unsafe.String(&bytes[1], 1)
	wrong[0].Text = list[0].Text
	before := append(slices.Clone(list), list[0])
	list = append(list, list[0])[:3:4]
	left, n := Prune(text, list)
	stay, none := Prune(text, wrong)
	again, _ := Prune(text, list)
	idle, more := Idle(text, list), Idle(text, list)
	Needed(text, list, 1)
	if !slices.Equal(list[:4], before) || !slices.Equal(left, again) {
		t.Errorf("%v", list)
	}
	spoil(again, put(1, 2, "x", 3))
	spoil(more, 7)
	if shown(left) != "[?][!]" || n != 1 || !slices.Equal(list[:4], before) || !slices.Equal(idle, []int{1}) || !slices.Equal(stay, wrong) {
		t.Errorf("%v, %d", left, n)
	}
	spoil(list, put(4, 5, "y", 6))
	spoil(bytes, '-')
	if shown(left) != "[?][!]" || left[1].Kind != plan.Given || shown(stay) != "[?]" || none != 0 || stay[0].Kind != plan.Mark {
		t.Errorf("%v, %v", left, stay)
	}
}
