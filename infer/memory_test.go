package infer

import (
	"slices"
	"strconv"
	"testing"
	"unsafe"

	"caulker/api"
	"caulker/base"
	"caulker/strict"
	"caulker/tree"
)

// written are some numbers, and what they are of.
func written(what string, list ...int) string {
	for _, n := range list {
		what += " " + strconv.Itoa(n)
	}
	return what + "\n"
}

// all is all that a result answers, as a text.
func all(r *Result) string {
	p := r.Info().Tree()
	text := tree.Form(p, p.Root) + written("rounds", r.Rounds()) + written("guards", r.Guards()...) + written("cuts", r.Cuts()...)
	for _, p := range r.Marked() {
		text += written("marked", p.Node, p.Layer)
		for _, s := range r.Path(p) {
			text += written("path", s.From.Node, s.From.Layer, s.To.Node, s.To.Layer, s.Why, s.At)
		}
	}
	for _, s := range r.Steps() {
		text += written("step", s.From.Node, s.From.Layer, s.To.Node, s.To.Layer, s.Why, s.At)
	}
	return text
}

// spoil changes all of a list, its spare room too.
func spoil[T any](list []T, to T) {
	for i := range list[:cap(list)] {
		list[:cap(list)][i] = to
	}
}

// P2: what a result answers is new memory each time.
func TestNewAnswers(t *testing.T) {
	x := known(t, main+"class A { A f; void g(A[] a, A b) { A c = this.f; a[0] = c; this.g(a, c); c.g(null, b); A d = c; } }")
	b := place(x, nil, "b0")
	shut := []strict.Place{b, strict.Nowhere(), b}
	before := x.Tree()
	r, f := Solve(x, false, shut[:1]...)
	if r == nil || !slices.Equal(shut, []strict.Place{b, strict.Nowhere(), b}) || !alike(before, x.Tree()) || !tree.Same(before, x.Tree()) {
		t.Fatal(f)
	}
	spoil(shut, strict.Nowhere())
	if len(r.Marked()) < 3 || len(r.Guards()) == 0 || len(r.Cuts()) == 0 || len(r.Path(r.Marked()[0])) == 0 {
		t.Fatal(all(r))
	}
	want := all(r)
	path := r.Path(r.Marked()[0])
	spoil(path, Step{})
	spoil(r.Marked(), strict.Place{})
	spoil(r.Guards(), 99)
	spoil(r.Cuts(), 99)
	spoil(r.Steps(), Step{})
	spoil(r.Info().Tree().Nodes, api.Node{})
	*r.Info() = base.Info{}
	*x = base.Info{}
	if got := all(r); got != want {
		t.Errorf("%s, not %s", got, want)
	}
}

// P2: of two results none knows of the other one, and each tells the same again.
func TestApart(t *testing.T) {
	x := known(t, main+"class A { A f; void g(A a) { this.g(ask(a)); this.f = a; a.g(a); } }")
	a := place(x, nil, "a0")
	for range 3 {
		one, _ := Solve(x, false)
		other, _ := Solve(x, true, a)
		again, _ := Solve(x, false)
		if all(one) != all(again) || all(one) == all(other) || len(other.Cuts()) != 1 || len(one.Cuts()) != 0 {
			t.Errorf("%s, %s, %s", all(one), all(other), all(again))
		}
	}
}

// P2: what Places and Mark answer is new memory.
func TestNewPrograms(t *testing.T) {
	bytes := []byte("Abcf  x")
	view := func(from, to int) string { return unsafe.String(&bytes[from], to-from) }
	fields := []api.Node{{Kind: api.Field, Text: view(3, 4), Type: api.Type{Base: api.Class, Name: view(0, 3), Dims: 1, Marks: view(4, 6)}, Ends: []int{3, 5}}, {Kind: api.Var, Text: view(6, 7), Kids: []int{0}}, {Kind: api.Program}}
	p := api.Tree{Root: 1, Nodes: fields[:2]}
	list := []strict.Place{{Node: 0, Layer: 1}, {Node: 0, Layer: 0}}
	marked, same := Mark(p, list[:1]...), Mark(p)
	places, again := Places(p), Places(p)
	spoil(places, strict.Place{Node: 9})
	if list[1] != (strict.Place{}) || fields[2].Kind != api.Program || p.Nodes[0].Type.Marks != "  " || !slices.Equal(again, []strict.Place{{}, {Layer: 1}}) {
		t.Error("what is handed in is changed")
	}
	for i := range bytes {
		bytes[i] = '-'
	}
	fields[0].Ends[0], fields[1].Kids[0] = 99, 99
	for _, x := range []struct {
		got  api.Tree
		want string
	}{{marked, " ?"}, {same, "  "}} {
		n, v := x.got.Nodes[0], x.got.Nodes[1]
		if n.Text != "f" || n.Type != (api.Type{Base: api.Class, Name: "Abc", Dims: 1, Marks: x.want}) || !slices.Equal(n.Ends, []int{3, 5}) || v.Text != "x" || !slices.Equal(v.Kids, []int{0}) || x.got.Root != 1 || len(x.got.Nodes) != 2 {
			t.Errorf("%+v", x.got)
		}
		spoil(n.Ends, -1)
		spoil(v.Kids, -1)
		spoil(x.got.Nodes, api.Node{})
	}
	if fields[0].Kind != api.Field || fields[0].Ends[1] != 5 || fields[2].Kind != api.Program {
		t.Error("it is shared")
	}
}
