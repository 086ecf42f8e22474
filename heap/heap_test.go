package heap

import (
	"math"
	"math/rand"
	"slices"
	"strings"
	"testing"
	"unsafe"

	"caulker/api"
)

// Some types.
var (
	ints    = api.Type{Base: api.Int, Marks: " "}
	bools   = api.Type{Base: api.Bool, Marks: " "}
	doubles = api.Type{Base: api.Double, Marks: " "}
	texts   = api.Type{Base: api.Str, Marks: " "}
	as      = api.Type{Base: api.Class, Name: "A", Marks: "?"}
	options = api.Type{Base: api.Class, Name: "A", Marks: "o"}
	lists   = api.Type{Base: api.Class, Name: "A", Dims: 1, Marks: "? "}
)

// object is an object more, of which nothing is wrong.
func object(t *testing.T, h *Heap, class string, fields ...api.Type) Value {
	t.Helper()
	v, e := h.Object(class, fields...)
	if e != api.OK {
		t.Fatalf("%v of %s", e, class)
	}
	return v
}

// array is an array more, likewise.
func array(t *testing.T, h *Heap, elem api.Type, n int64) Value {
	t.Helper()
	v, e := h.Array(elem, n)
	if e != api.OK {
		t.Fatalf("%v of %d", e, n)
	}
	return v
}

// holds holds a heap to how many there are of all.
func holds(t *testing.T, h *Heap, objects, cells int) {
	t.Helper()
	if h.Objects() != objects || h.Cells() != cells {
		t.Errorf("%d and %d, not %d and %d", h.Objects(), h.Cells(), objects, cells)
	}
}

// The chapter's example.
func TestExample(t *testing.T) {
	var h Heap
	holds(t, &h, 0, 0)
	o := object(t, &h, "A", ints, as)
	a := array(t, &h, bools, 3)
	holds(t, &h, 2, 5)
	if o != At(0) || a != At(1) {
		t.Errorf("%v %v", o, a)
	}
	for i := range 3 {
		if v, e := h.Load(a, int64(i)); v != Bool(false) || e != api.OK {
			t.Errorf("%d: %v %v", i, v, e)
		}
	}
}

// P15.2, P15.4: fields and elements are Empty of their types at first.
func TestFirst(t *testing.T) {
	var h Heap
	all := []api.Type{ints, bools, doubles, texts, as, options, lists, {}, {Base: api.Void, Marks: " "}, {Base: 77}, {Base: api.Int, Marks: "o"}}
	o := object(t, &h, "A", all...)
	for i, elem := range all {
		a := array(t, &h, elem, 2)
		v, e := h.Load(o, int64(i))
		w, f := h.Load(a, 1)
		if v != Empty(elem) || w != v || e != api.OK || f != api.OK {
			t.Errorf("%+v: %v %v", elem, v, w)
		}
	}
}

// P15.2: objects and arrays, up to as many as there may be; what is refused changes nothing.
func TestManyObjects(t *testing.T) {
	var h Heap
	for i := range MaxObjects {
		v := Value{}
		if i%2 == 0 {
			v = object(t, &h, "A")
		} else {
			v = array(t, &h, ints, int64(i%3))
		}
		if v != At(i) {
			t.Fatalf("%d: %v", i, v)
		}
	}
	cells := h.Cells()
	for range 2 {
		if v, e := h.Object("A"); v != (Value{}) || e != api.ErrLong {
			t.Errorf("%v %v", v, e)
		}
		if v, e := h.Object("A", ints); v != (Value{}) || e != api.ErrLong {
			t.Errorf("%v %v", v, e)
		}
		if v, e := h.Array(ints, 0); v != (Value{}) || e != api.ErrLong {
			t.Errorf("%v %v", v, e)
		}
		if v, e := h.Array(ints, -1); v != (Value{}) || e != api.ErrRange {
			t.Errorf("%v %v", v, e)
		}
		holds(t, &h, 4096, cells)
	}
}

// P15.2: fields and elements, up to as many as there may be in all.
func TestManyCells(t *testing.T) {
	var h Heap
	a := array(t, &h, texts, 65536)
	holds(t, &h, 1, 65536)
	if v, e := h.Load(a, 65535); v != Str("") || e != api.OK {
		t.Errorf("%v %v", v, e)
	}
	for _, n := range []int64{1, 65536, math.MaxInt64, math.MaxInt64 - 65535, math.MaxInt32, 1 << 32} {
		if v, e := h.Array(ints, n); v != (Value{}) || e != api.ErrLong {
			t.Errorf("%d: %v %v", n, v, e)
		}
	}
	if v, e := h.Object("A", ints); v != (Value{}) || e != api.ErrLong {
		t.Errorf("%v %v", v, e)
	}
	object(t, &h, "A")
	array(t, &h, ints, 0)
	holds(t, &h, 3, 65536)

	h = Heap{}
	for _, n := range []int64{-1, math.MinInt64, 65537, math.MaxInt64} {
		want := api.ErrLong
		if n < 0 {
			want = api.ErrRange
		}
		if v, e := h.Array(ints, n); v != (Value{}) || e != want {
			t.Errorf("%d: %v %v", n, v, e)
		}
	}
	if v, e := h.Object("A", make([]api.Type, 65537)...); v != (Value{}) || e != api.ErrLong {
		t.Errorf("%v %v", v, e)
	}
	holds(t, &h, 0, 0)
	object(t, &h, "A", make([]api.Type, 65530)...)
	if _, e := h.Array(ints, 7); e != api.ErrLong {
		t.Errorf("%v", e)
	}
	array(t, &h, ints, 5)
	object(t, &h, "A", ints)
	if _, e := h.Object("A", ints); e != api.ErrLong {
		t.Errorf("%v", e)
	}
	holds(t, &h, 3, 65536)
}

// P15.3: what values refer to.
func TestAsked(t *testing.T) {
	var h Heap
	values := []Value{object(t, &h, "A", ints, as), array(t, &h, lists, 3), object(t, &h, ""), array(t, &h, api.Type{Base: 77, Name: "B", Dims: -2, Marks: "xyz"}, 0)}
	for i, want := range []struct {
		class  string
		object bool
		elem   api.Type
		n      int
	}{{"A", true, api.Type{}, 2}, {"", false, lists, 3}, {"", true, api.Type{}, 0}, {"", false, api.Type{Base: 77, Name: "B", Dims: -2, Marks: "xyz"}, 0}} {
		class, ok := h.Class(values[i])
		elem, is := h.Elem(values[i])
		if class != want.class || ok != want.object || elem != want.elem || is == want.object || h.Len(values[i]) != want.n {
			t.Errorf("%d: %q %t %v %t %d", i, class, ok, elem, is, h.Len(values[i]))
		}
	}
	if class, ok := h.Class(Value{Kind: Ref, S: "whatever"}); class != "A" || !ok {
		t.Error("what a value refers to hangs on its kind and its number alone")
	}
	for _, v := range nowhere() {
		class, ok := h.Class(v)
		elem, is := h.Elem(v)
		if class != "" || ok || elem != (api.Type{}) || is || h.Len(v) != -1 {
			t.Errorf("%v: %q %t %v %t %d", v, class, ok, elem, is, h.Len(v))
		}
		for _, i := range []int64{0, -1, 9} {
			if got, e := h.Load(v, i); got != (Value{}) || e != api.ErrMissing {
				t.Errorf("%v: %v %v", v, got, e)
			}
			if e := h.Store(v, i, Int(1)); e != api.ErrMissing {
				t.Errorf("%v: %v", v, e)
			}
		}
	}
	var none Heap
	if _, e := none.Load(At(0), 0); e != api.ErrMissing || none.Len(At(0)) != -1 {
		t.Errorf("%v", e)
	}
}

// nowhere are values that refer to nothing, in a heap of four things.
func nowhere() []Value {
	return []Value{{}, Int(0), Bool(true), Double(1), Str("A"), {Kind: Null}, {Kind: None}, {Kind: Some}, {Kind: Some, N: 1}, {Kind: Void}, {Kind: -1}, At(4), At(-1), At(math.MaxInt), At(math.MinInt), {Kind: Ref, N: math.MinInt64}, {Kind: Ref, N: 1 << 32}}
}

// Void is a kind that no value has.
const Void = api.Void

// P15.4: fields and elements are loaded and stored, each for itself, whatever they are.
func TestStore(t *testing.T) {
	var h Heap
	o, a := object(t, &h, "A", ints, as, texts), array(t, &h, ints, 2)
	for _, x := range []struct {
		v Value
		i int64
		w Value
	}{{o, 0, Int(5)}, {o, 1, o}, {o, 2, Str("text")}, {a, 0, Value{Kind: 77, N: 3, S: "z"}}, {a, 1, Value{}}} {
		if e := h.Store(x.v, x.i, x.w); e != api.OK {
			t.Errorf("%d: %v", x.i, e)
		}
		if got, e := h.Load(x.v, x.i); got != x.w || e != api.OK {
			t.Errorf("%d: %v %v", x.i, got, e)
		}
	}
	for i, want := range []Value{Int(5), o, Str("text")} {
		if got, _ := h.Load(o, int64(i)); got != want {
			t.Errorf("%d: %v", i, got)
		}
	}
	for _, i := range []int64{-1, 3, 4, math.MaxInt64, math.MinInt64, 1 << 32} {
		if got, e := h.Load(o, i); got != (Value{}) || e != api.ErrRange {
			t.Errorf("%d: %v %v", i, got, e)
		}
		if e := h.Store(o, i, Int(1)); e != api.ErrRange {
			t.Errorf("%d: %v", i, e)
		}
	}
	if _, e := h.Load(a, 2); e != api.ErrRange {
		t.Errorf("%v", e)
	}
	holds(t, &h, 2, 5)
}

// P15.4: what is cloned is the same, and is changed for itself.
func TestClone(t *testing.T) {
	var h Heap
	o, a := object(t, &h, "A", ints, texts), array(t, &h, lists, 2)
	h.Store(o, 1, Str("one"))
	c := h.Clone()
	holds(t, c, 2, 4)
	class, _ := c.Class(o)
	elem, _ := c.Elem(a)
	text, _ := c.Load(o, 1)
	if class != "A" || elem != lists || text != Str("one") || c.Len(o) != 2 || c.Len(a) != 2 {
		t.Errorf("%s %v %v", class, elem, text)
	}
	c.Store(o, 0, Int(1))
	h.Store(a, 0, o)
	x, _ := h.Load(o, 0)
	y, _ := c.Load(a, 0)
	if x != Int(0) || y != (Value{Kind: Null}) {
		t.Errorf("%v %v", x, y)
	}
	if v := object(t, c, "B"); v != At(2) || h.Objects() != 2 {
		t.Errorf("%v", v)
	}
	array(t, &h, ints, 1)
	if _, ok := c.Class(At(2)); !ok {
		t.Error("an object of one is an array of the other")
	}
	holds(t, c, 3, 4)
	holds(t, &h, 3, 5)
	var none Heap
	empty := none.Clone()
	object(t, empty, "A", ints)
	holds(t, empty, 1, 1)
	holds(t, &none, 0, 0)
}

// P15.4: what is cloned has as much room left.
func TestCloneFull(t *testing.T) {
	var h Heap
	array(t, &h, ints, 65535)
	c := h.Clone()
	if _, e := c.Array(ints, 2); e != api.ErrLong {
		t.Errorf("%v", e)
	}
	array(t, c, ints, 1)
	if _, e := c.Array(ints, 1); e != api.ErrLong {
		t.Errorf("%v", e)
	}
	array(t, &h, ints, 1)
}

// P2: nothing that is handed in is changed or kept, and nothing that is answered is shared.
func TestNewMemory(t *testing.T) {
	bytes := []byte("A ?txt")
	word := func(from, to int) string { return unsafe.String(&bytes[from], to-from) }
	var h Heap
	fields := []api.Type{{Base: api.Class, Name: word(0, 1), Marks: word(2, 3)}, ints}
	was := slices.Clone(fields)
	o := object(t, &h, word(0, 1), fields...)
	a := array(t, &h, api.Type{Base: api.Class, Name: word(0, 1), Dims: 1, Marks: word(1, 3)}, 1)
	h.Store(a, 0, Value{Kind: api.Str, S: word(3, 6)})
	if !slices.Equal(fields, was) || string(bytes) != "A ?txt" {
		t.Error("what was handed in is changed")
	}
	clear(bytes)
	clear(fields)
	c := h.Clone()
	for _, h := range []*Heap{&h, c} {
		class, _ := h.Class(o)
		elem, _ := h.Elem(a)
		text, _ := h.Load(a, 0)
		if class != "A" || elem != (api.Type{Base: api.Class, Name: "A", Dims: 1, Marks: " ?"}) || text != Str("txt") {
			t.Errorf("%q %v %v", class, elem, text)
		}
		again, _ := h.Class(o)
		more, _ := h.Elem(a)
		like, _ := h.Load(a, 0)
		if shared(class, again) || shared(elem.Name, more.Name) || shared(elem.Marks, more.Marks) || shared(text.S, like.S) {
			t.Error("two answers share a text")
		}
	}
	if shared(h.things[0].class, c.things[0].class) || shared(h.things[1].elem.Name, c.things[1].elem.Name) || shared(h.things[1].elem.Marks, c.things[1].elem.Marks) || shared(h.things[1].cells[0].S, c.things[1].cells[0].S) {
		t.Error("a heap and what is cloned of it share a text")
	}
}

// model is the document's heap: all that was made, and all cells by their places.
type model struct {
	made  []any // a class, or the type of elements
	size  []int
	cells map[[2]int64]Value
}

// held holds a heap to a model, all over.
func (m *model) held(t *testing.T, h *Heap) {
	t.Helper()
	holds(t, h, len(m.made), len(m.cells))
	for i := range m.made {
		class, ok := h.Class(At(i))
		elem, is := h.Elem(At(i))
		wantClass, wantOk := m.made[i].(string)
		wantElem, wantIs := m.made[i].(api.Type)
		if class != wantClass || ok != wantOk || elem != wantElem || is != wantIs || h.Len(At(i)) != m.size[i] {
			t.Fatalf("%d: %q %t %v %t", i, class, ok, elem, is)
		}
		for j := range m.size[i] {
			v, e := h.Load(At(i), int64(j))
			if v != m.cells[[2]int64{int64(i), int64(j)}] || e != api.OK {
				t.Fatalf("%d %d: %v %v", i, j, v, e)
			}
		}
	}
}

// P15.2 to P15.4: calls of all sorts, one after the other.
func TestModel(t *testing.T) {
	r := rand.New(rand.NewSource(15))
	types := []api.Type{ints, bools, doubles, texts, as, options, lists, {}, {Base: 77}}
	for range 60 {
		h, m := &Heap{}, &model{cells: map[[2]int64]Value{}}
		for range 200 {
			thing, i := int64(r.Intn(len(m.made)+2)-1), int64(r.Intn(6)-1)
			v := []Value{Int(i), Str(strings.Repeat("x", int(i+1))), {Kind: Some, N: thing}, {Kind: Null}, At(int(thing))}[r.Intn(5)]
			switch r.Intn(6) {
			case 0:
				fields := types[:r.Intn(len(types))]
				h.Object("C", fields...)
				m.made, m.size = append(m.made, "C"), append(m.size, len(fields))
				for i, f := range fields {
					m.cells[[2]int64{int64(len(m.made) - 1), int64(i)}] = Empty(f)
				}
			case 1:
				elem := types[r.Intn(len(types))]
				if _, e := h.Array(elem, i); i < 0 {
					if e != api.ErrRange {
						t.Fatalf("%v", e)
					}
					continue
				}
				m.made, m.size = append(m.made, elem), append(m.size, int(i))
				for j := range i {
					m.cells[[2]int64{int64(len(m.made) - 1), j}] = Empty(elem)
				}
			case 2:
				h = h.Clone()
			default:
				want := api.OK
				if thing < 0 || thing >= int64(len(m.made)) {
					want = api.ErrMissing
				} else if _, ok := m.cells[[2]int64{thing, i}]; !ok {
					want = api.ErrRange
				}
				if e := h.Store(At(int(thing)), i, v); e != want {
					t.Fatalf("%v, not %v", e, want)
				}
				if want == api.OK {
					m.cells[[2]int64{thing, i}] = v
				}
			}
		}
		m.held(t, h)
	}
}
