package kind

import (
	"math"
	"slices"
	"strings"
	"testing"
	"unsafe"

	"caulker/api"
)

var (
	null = api.Type{Base: 7, Marks: "?"}
	none = api.Type{Base: 8, Marks: "o"}
)

// bases are how bases are written.
var bases = []string{"", "int", "bool", "double", "str", "", "void", "null", "none", ""}

// P10.1: how many types there are in what the tests hold all calls to.
func TestModel(t *testing.T) {
	m := newModel()
	if len(m.texts) != 1+4*(1+3+6+12+24)+2*(3+6+12+24+48) || len(m.texts) != len(m.types) || len(m.wrong) < 3000 {
		t.Errorf("%d, %d, %d wrong ones", len(m.texts), len(m.types), len(m.wrong))
	}
}

// P10.1: Of, of all bases, names and numbers of arrays.
func TestOf(t *testing.T) {
	m := newModel()
	for base := -2; base < 12; base++ {
		for _, name := range []string{"", "A", "B"} {
			for dims := -2; dims < 8; dims++ {
				text := name
				if base > 0 && base < 7 && base != api.Class {
					text = name + bases[base]
				}
				want, ok := m.types[text+strings.Repeat("[]", max(dims, 0))]
				ok = ok && dims >= 0 && want.Base == base
				if !ok {
					want = api.Type{}
				}
				got, e := Of(base, name, dims)
				if got != want || (e == api.OK) != ok || !ok && e != api.ErrForm {
					t.Errorf("Of %d %q %d: %+v %d", base, name, dims, got, e)
				}
			}
		}
	}
	for _, n := range []int{math.MinInt, math.MinInt32, 1 << 32, 1<<32 + 5, math.MaxInt} {
		for _, x := range [][2]int{{n, 0}, {n, 1}, {api.Class, n}, {n, n}} {
			if got, e := Of(x[0], "A", x[1]); got != (api.Type{}) || e != api.ErrForm {
				t.Errorf("Of %v: %+v %d", x, got, e)
			}
		}
	}
	if got, e := Of(api.Class, "a b\xff", 1); got != (api.Type{Base: api.Class, Name: "a b\xff", Dims: 1, Marks: "  "}) || e != api.OK {
		t.Errorf("any name: %+v %d", got, e)
	}
}

// P10.1, P10.2: which types are right, refer to something, and how they are written.
func TestRight(t *testing.T) {
	m := newModel()
	if Null() != null || None() != none {
		t.Errorf("%+v %+v", Null(), None())
	}
	for x, text := range m.texts {
		if !Right(x) || Ref(x) != refers(text) || Show(x) != text {
			t.Errorf("%s: %t %t %s", text, Right(x), Ref(x), Show(x))
		}
	}
	for x, text := range map[api.Type]string{null: "null", none: "none"} {
		if !Right(x) || !Ref(x) || Show(x) != text {
			t.Errorf("%s: %t %t %s", text, Right(x), Ref(x), Show(x))
		}
	}
	for _, x := range m.wrong {
		if Right(x) || Ref(x) || Show(x) != "" {
			t.Errorf("%+v: %t %t %s", x, Right(x), Ref(x), Show(x))
		}
	}
}

// P10.2: Outer, Bare and Layers.
func TestLayers(t *testing.T) {
	m := newModel()
	for x, text := range m.texts {
		outer := text[len(unmarked(text)):] // what stands behind, if it is no option
		want := byte(' ')
		if outer == "?" {
			want = '?'
		} else if outer != "" {
			want = 'o'
		}
		var layers []int
		for i := range x.Dims + 1 {
			marks := []byte(strings.Repeat(" ", x.Dims+1))
			marks[i] = '?'
			if _, ok := m.texts[api.Type{Base: x.Base, Name: x.Name, Dims: x.Dims, Marks: string(marks)}]; ok {
				layers = append(layers, i)
			}
		}
		if Outer(x) != want || Bare(x) != m.types[bare(text)] || !slices.Equal(Layers(x), layers) {
			t.Errorf("%s: %q %+v %v", text, Outer(x), Bare(x), Layers(x))
		}
	}
	for _, x := range m.wrong {
		if Outer(x) != ' ' || Bare(x) != x || len(Layers(x)) != 0 {
			t.Errorf("%+v: %q %+v %v", x, Outer(x), Bare(x), Layers(x))
		}
	}
	if Outer(null) != '?' || Outer(none) != 'o' || Bare(null) != null || Bare(none) != none || len(Layers(null))+len(Layers(none)) != 0 {
		t.Error("null and none")
	}
}

// P10.2, P10.5: Alike, Inside and Less, of all pairs.
func TestPairs(t *testing.T) {
	m := newModel()
	for a, text := range m.texts {
		for b, other := range m.texts {
			alike := bare(text) == bare(other)
			less := alike && slices.Contains(fewer(b.Marks), a.Marks)
			if Alike(a, b) != alike || Inside(a, b) != (unmarked(text) == unmarked(other)) || Less(a, b) != less {
				t.Fatalf("%s and %s: %t %t %t", text, other, Alike(a, b), Inside(a, b), Less(a, b))
			}
		}
		for _, b := range []api.Type{null, none, {}, {Base: a.Base, Name: a.Name, Dims: a.Dims}, {Base: a.Base, Name: a.Name, Dims: a.Dims, Marks: a.Marks + " "}} {
			if Alike(a, b) || Inside(a, b) || Less(a, b) || Alike(b, a) || Inside(b, a) || Less(b, a) {
				t.Errorf("%s and %+v", text, b)
			}
		}
	}
	for _, a := range []api.Type{null, none} {
		for _, b := range []api.Type{null, none} {
			if Alike(a, b) != (a == b) || Inside(a, b) != (a == b) || Less(a, b) != (a == b) {
				t.Errorf("%+v and %+v", a, b)
			}
		}
	}
	for _, x := range m.wrong {
		if Alike(x, x) || Inside(x, x) || Less(x, x) {
			t.Errorf("%+v and itself", x)
		}
	}
}

// P10.3: With, of all types and marks.
func TestWith(t *testing.T) {
	m := newModel()
	for mark := range 256 {
		for x, text := range m.texts {
			got, e := With(x, byte(mark))
			want, wrong := api.Type{}, api.OK
			in := unmarked(text)
			switch {
			case !refers(text):
				wrong = api.ErrKind
			case mark == ' ':
				want = m.types[in]
			case mark == '?':
				want = m.types[in+"?"]
			case mark == 'o':
				want = m.types["Option<"+in+">"]
			default:
				wrong = api.ErrMark
			}
			if got != want || e != wrong {
				t.Errorf("%s with %q: %+v %d", text, byte(mark), got, e)
			}
		}
		for _, x := range append(m.wrong, null, none) {
			if got, e := With(x, byte(mark)); got != (api.Type{}) || e != api.ErrKind {
				t.Fatalf("%+v with %q: %+v %d", x, byte(mark), got, e)
			}
		}
	}
}

// P10.3: Mark, of all types, layers and marks.
func TestMark(t *testing.T) {
	m := newModel()
	for x, text := range m.texts {
		for mark := range 256 {
			for layer := range x.Dims + 1 {
				marks := []byte(x.Marks)
				marks[layer] = byte(mark)
				want := api.Type{Base: x.Base, Name: x.Name, Dims: x.Dims, Marks: string(marks)}
				wrong := api.OK
				if _, ok := m.texts[want]; !ok {
					want, wrong = api.Type{}, api.ErrMark
				}
				if got, e := Mark(x, layer, byte(mark)); got != want || e != wrong {
					t.Errorf("%s, %d, %q: %+v %d", text, layer, byte(mark), got, e)
				}
			}
			for _, layer := range []int{math.MinInt, -1, x.Dims + 1, 5, math.MaxInt} {
				if got, e := Mark(x, layer, byte(mark)); got != (api.Type{}) || e != api.ErrRange {
					t.Errorf("%s, %d, %q: %+v %d", text, layer, byte(mark), got, e)
				}
			}
		}
	}
	for _, x := range append(m.wrong, null, none) {
		for _, layer := range []int{math.MinInt, -1, 0, 1, 9, math.MaxInt} {
			for _, mark := range []byte{' ', '?', 'o', 'x'} {
				if got, e := Mark(x, layer, mark); got != (api.Type{}) || e != api.ErrKind {
					t.Fatalf("%+v, %d: %+v %d", x, layer, got, e)
				}
			}
		}
	}
}

// P10.4: Elem and Array.
func TestArrays(t *testing.T) {
	m := newModel()
	for x, text := range m.texts {
		want, wrong := api.Type{}, api.ErrKind
		if in, ok := strings.CutSuffix(unmarked(text), "[]"); ok {
			want, wrong = m.types[in], api.OK
		}
		if got, e := Elem(x); got != want || e != wrong {
			t.Errorf("Elem of %s: %+v %d", text, got, e)
		}
		want, wrong = m.types[text+"[]"], api.OK
		switch {
		case text == "void" || strings.HasPrefix(text, "Option<"):
			wrong = api.ErrKind
		case strings.Count(text, "[]") == 4:
			wrong = api.ErrLong
		}
		if got, e := Array(x); got != want || e != wrong {
			t.Errorf("Array of %s: %+v %d", text, got, e)
		}
	}
	for _, x := range append(m.wrong, null, none) {
		if got, e := Elem(x); got != (api.Type{}) || e != api.ErrKind {
			t.Errorf("Elem of %+v: %+v %d", x, got, e)
		}
		if got, e := Array(x); got != (api.Type{}) || e != api.ErrKind {
			t.Errorf("Array of %+v: %+v %d", x, got, e)
		}
	}
}

// P10.5: Number and Is.
func TestIs(t *testing.T) {
	m := newModel()
	m.texts[null], m.texts[none] = "null", "none"
	for _, x := range m.wrong {
		m.texts[x] = "-"
	}
	for x, text := range m.texts {
		if Number(x) != (text == "int" || text == "double") {
			t.Errorf("Number %s", text)
		}
		for base, name := range bases {
			if Is(x, base) != (name == text) {
				t.Errorf("%s, %d: %t", text, base, Is(x, base))
			}
		}
		if Is(x, -1) || Is(x, math.MinInt) || Is(x, math.MaxInt) {
			t.Errorf("%s is of no base", text)
		}
	}
}

// The chapter's example.
func TestExample(t *testing.T) {
	in, _ := With(api.Type{Base: api.Class, Name: "C", Marks: " "}, '?')
	x, e := Array(in)
	if e != api.OK || Show(x) != "C?[]" || Outer(x) != ' ' || !slices.Equal(Layers(x), []int{0, 1}) {
		t.Errorf("%s %d %v", Show(x), e, Layers(x))
	}
	y, e := Mark(x, 0, ' ')
	if e != api.OK || Show(y) != "C[]" || !Less(y, x) || Less(x, y) {
		t.Errorf("%s %d", Show(y), e)
	}
}

// P2: what is answered is new memory.
func TestNewMemory(t *testing.T) {
	bytes := []byte("Abc?? ")
	view := func(from, to int) string { return unsafe.String(&bytes[from], to-from) }
	x := api.Type{Base: api.Class, Name: view(0, 3), Dims: 2, Marks: view(3, 6)}
	of, _ := Of(api.Class, view(0, 3), 1)
	with, _ := With(x, 'o')
	mark, _ := Mark(x, 1, ' ')
	elem, _ := Elem(x)
	array, _ := Array(x)
	bareOne, show := Bare(x), Show(x)
	wrong := Bare(api.Type{Name: view(0, 3), Marks: view(3, 6)})
	one, other := Layers(x), Layers(x)
	for i := range bytes {
		bytes[i] = '-'
	}
	for i := range one[:cap(one)] {
		one[:cap(one)][i] = -99
	}
	for got, want := range map[string]string{Show(of): "Abc[]", Show(with): "Option<Abc?[]?[]>", Show(mark): "Abc?[][]", Show(elem): "Abc?[]?", Show(array): "Abc?[]?[][]", Show(bareOne): "Abc[][]", show: "Abc?[]?[]", wrong.Name + wrong.Marks: "Abc?? "} {
		if got != want {
			t.Errorf("%s, not %s", got, want)
		}
	}
	if !slices.Equal(other, []int{0, 1, 2}) {
		t.Errorf("%v", other)
	}
}
