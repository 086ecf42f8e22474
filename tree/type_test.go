package tree

import (
	"math"
	"strings"
	"testing"

	"caulker/api"
)

// marksOf are all texts of so many of some bytes.
func marksOf(bytes string, n int) []string {
	if n == 0 {
		return []string{""}
	}
	var list []string
	for _, ahead := range marksOf(bytes, n-1) {
		for i := range len(bytes) {
			list = append(list, ahead+bytes[i:i+1])
		}
	}
	return list
}

// types are all types that may be, whose name, if they have one, is A, and how they are written: made layer by layer from their bases.
func types() map[api.Type]string {
	all := map[api.Type]string{{Base: api.Void, Marks: " "}: "void"}
	last := map[api.Type]string{
		{Base: api.Int}:              "int",
		{Base: api.Bool}:             "bool",
		{Base: api.Double}:           "double",
		{Base: api.Str}:              "str",
		{Base: api.Class, Name: "A"}: "A",
	}
	for dims := range 5 {
		within := map[api.Type]string{}
		for t, text := range last {
			t.Dims = dims
			marks := t.Marks
			t.Marks = marks + " "
			all[t], within[t] = text, text+"[]"
			if dims == 0 && t.Base != api.Class {
				continue
			}
			t.Marks = marks + "?"
			all[t], within[t] = text+"?", text+"?[]"
			t.Marks = marks + "o"
			all[t] = "Option<" + text + ">"
		}
		last = within
	}
	return all
}

// fieldOf is a program with a field of a type.
func fieldOf(t api.Type) api.Tree {
	return api.Tree{Nodes: []api.Node{{Kind: api.Field, Text: "x", Type: t}, {Kind: api.Program, Kids: []int{0}}}, Root: 1}
}

// holdType holds what is told of a type to what may be.
func holdType(t *testing.T, all map[api.Type]string, x api.Type) {
	t.Helper()
	want, may := all[x]
	if got := TypeText(x); got != want {
		t.Errorf("TypeText %+v: %q, not %q", x, got, want)
	}
	if e := Check(fieldOf(x)); (e == api.OK) != may || !may && e != api.ErrForm {
		t.Errorf("Check of a field of %+v: %d", x, e)
	}
	if Plain(x) != (strings.ReplaceAll(x.Marks, " ", "") == "") {
		t.Errorf("Plain %+v: %t", x, Plain(x))
	}
}

// P7.1: all types of few names and marks.
func TestTypes(t *testing.T) {
	all := types()
	if len(all) != 1+3+6+12+24+48+4*(1+3+6+12+24) {
		t.Fatalf("%d types", len(all))
	}
	for x := range all {
		holdType(t, all, x)
	}
	for base := -1; base < 10; base++ {
		for dims := -1; dims < 7; dims++ {
			for n := range 7 {
				for _, marks := range marksOf(" ?o", n) {
					holdType(t, all, api.Type{Base: base, Dims: dims, Marks: marks})
					holdType(t, all, api.Type{Base: base, Name: "A", Dims: dims, Marks: marks})
				}
			}
		}
	}
}

// P7.1: each byte as a mark, at each place.
func TestMarks(t *testing.T) {
	all := types()
	for c := range 256 {
		for _, base := range []int{api.Int, api.Class} {
			name := map[int]string{api.Class: "A"}[base]
			for dims := range 4 {
				for at := range dims + 1 {
					marks := []byte(strings.Repeat(" ", dims+1))
					marks[at] = byte(c)
					holdType(t, all, api.Type{Base: base, Name: name, Dims: dims, Marks: string(marks)})
				}
			}
		}
	}
}

// P7.1: wild numbers and names.
func TestWildTypes(t *testing.T) {
	for _, n := range []int{math.MinInt, math.MinInt32, -1, 1 << 8, 1<<8 + 1, 1 << 32, 1<<32 + 5, math.MaxInt32, math.MaxInt} {
		for _, x := range []api.Type{{Base: n, Marks: " "}, {Base: n, Name: "A", Marks: " "}, {Base: api.Int, Dims: n, Marks: " "}, {Base: api.Class, Name: "A", Dims: n, Marks: "  "}} {
			if TypeText(x) != "" || Check(fieldOf(x)) != api.ErrForm {
				t.Errorf("%+v", x)
			}
		}
	}
	for _, name := range []string{"B", "class", "\x00\xff", "a b", strings.Repeat("x", 1000)} {
		if got := TypeText(api.Type{Base: api.Class, Name: name, Dims: 1, Marks: "? "}); got != name+"?[]" {
			t.Errorf("%q: %q", name, got)
		}
		if TypeText(api.Type{Base: api.Str, Name: name, Marks: " "}) != "" {
			t.Errorf("a str %q", name)
		}
	}
	long := api.Type{Base: api.Class, Name: "A", Dims: 1 << 20, Marks: strings.Repeat(" ", 1<<20+1)}
	if TypeText(long) != "" || !Plain(long) {
		t.Error("very many arrays")
	}
}

// P7.1: examples, each written out.
func TestTypeTexts(t *testing.T) {
	for _, x := range []struct {
		base  int
		name  string
		dims  int
		marks string
		want  string
		plain bool
	}{
		{api.Int, "", 0, " ", "int", true},
		{api.Bool, "", 1, "  ", "bool[]", true},
		{api.Double, "", 4, "     ", "double[][][][]", true},
		{api.Str, "", 2, " ??", "str[]?[]?", false},
		{api.Void, "", 0, " ", "void", true},
		{api.Void, "", 1, "  ", "", true},
		{api.Void, "", 0, "?", "", false},
		{api.Class, "Main", 0, "o", "Option<Main>", false},
		{api.Class, "A", 2, "? o", "Option<A?[][]>", false},
		{api.Class, "A", 1, "oo", "", false},
		{api.Class, "A", 1, "o ", "", false},
		{api.Int, "", 0, "o", "", false},
		{api.Int, "", 1, " o", "Option<int[]>", false},
		{api.Class, "A", 5, "      ", "", true},
		{api.Class, "", 0, " ", "", true},
		{api.Int, "A", 0, " ", "", true},
		{0, "", 0, "", "", true},
		{api.Null, "", 0, "?", "", false},
		{api.None, "", 0, "o", "", false},
	} {
		got := api.Type{Base: x.base, Name: x.name, Dims: x.dims, Marks: x.marks}
		if TypeText(got) != x.want || Plain(got) != x.plain {
			t.Errorf("%+v: %q %t", got, TypeText(got), Plain(got))
		}
	}
}
