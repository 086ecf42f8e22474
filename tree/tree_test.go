package tree

import (
	"math"
	"reflect"
	"slices"
	"strings"
	"testing"
	"unsafe"

	"caulker/api"
)

// wild are nodes as no program has them.
func wild() []api.Node {
	return []api.Node{
		{},
		{Kind: -7, Kids: []int{3, -1, math.MaxInt}, Text: "\xff", N: -1},
		{Kind: math.MaxInt, Type: api.Type{Base: -1, Name: "\x00", Dims: -3, Marks: "!!"}, Ends: []int{-5}, Where: api.Span{From: 9, To: -9}},
		{Kind: api.Var, Span: api.Span{From: -1, To: math.MinInt}, Text: "x"},
	}
}

// P7.6: numbers from 0 on, nodes as they were added, whatever they are, the last one as the whole.
func TestBuilder(t *testing.T) {
	var b Builder
	if p := b.Tree(); len(p.Nodes) != 0 || p.Root != 0 {
		t.Errorf("none: %v", p)
	}
	for i, n := range wild() {
		if at, ok := b.Add(n); !ok || at != i {
			t.Errorf("Add: %d %t, not %d", at, ok, i)
		}
		for j, m := range wild()[:i+1] {
			if got := b.At(j); !reflect.DeepEqual(got, m) {
				t.Errorf("At %d: %+v, not %+v", j, got, m)
			}
		}
		if p := b.Tree(); p.Root != i || !reflect.DeepEqual(p.Nodes, wild()[:i+1]) {
			t.Errorf("Tree: %+v", p)
		}
	}
	for _, i := range []int{math.MinInt, -1, 4, math.MaxInt} {
		if got := b.At(i); !reflect.DeepEqual(got, api.Node{}) {
			t.Errorf("At %d: %+v", i, got)
		}
	}
}

// P7.6: as many as there may be; a refused one changes nothing.
func TestBuilderFull(t *testing.T) {
	var b Builder
	for i := range 16384 {
		if at, ok := b.Add(api.Node{Kind: api.Var, N: int64(i)}); !ok || at != i {
			t.Fatalf("Add: %d %t, not %d", at, ok, i)
		}
	}
	for range 3 {
		if at, ok := b.Add(api.Node{Kind: api.Program}); ok || at != 0 {
			t.Errorf("one more: %d %t", at, ok)
		}
	}
	p := b.Tree()
	if len(p.Nodes) != 16384 || p.Root != 16383 || p.Nodes[16383].Kind != api.Var || b.At(0).Kind != api.Var || b.At(16384).Kind != 0 {
		t.Errorf("%d nodes", len(p.Nodes))
	}
}

// P7.6: Clone, of whichever program.
func TestClone(t *testing.T) {
	for _, p := range []api.Tree{{}, {Root: -3}, {Nodes: wild(), Root: 77}, {Nodes: make([]api.Node, 20000), Root: math.MinInt}, chain(9)} {
		if got := Clone(p); !reflect.DeepEqual(got, p) {
			t.Errorf("%d nodes, Root %d", len(got.Nodes), got.Root)
		}
	}
}

// spoil writes over all lists of a program, their spare room with them.
func spoil(p api.Tree) {
	for _, n := range p.Nodes {
		for _, list := range [][]int{n.Kids[:cap(n.Kids)], n.Ends[:cap(n.Ends)]} {
			for i := range list {
				list[i] = -99
			}
		}
	}
	nodes := p.Nodes[:cap(p.Nodes)]
	for i := range nodes {
		nodes[i] = api.Node{Kind: -99}
	}
}

// strictProgram is a program of many nodes with lists, texts and types.
func strictProgram() api.Tree {
	c := newChance(7)
	g := c.program(6, true)
	for g.size() < 40 {
		g = c.program(6, true)
	}
	return g.tree()
}

// P2: what is handed in isn't kept, and what is answered is new memory, its spare room too.
func TestListsAreNew(t *testing.T) {
	given := strictProgram()
	want := strictProgram()
	var b Builder
	for _, n := range given.Nodes {
		b.Add(n)
	}
	first, second := b.Tree(), b.Tree()
	one, other := Clone(given), Clone(given)
	erased := Erase(given)
	form := Form(erased, erased.Root)
	walked, again := Walk(given, given.Root), Walk(given, given.Root)
	spoil(given)
	spoil(first)
	spoil(one)
	for i := range walked[:cap(walked)] {
		walked[:cap(walked)][i] = -99
	}
	if !reflect.DeepEqual(b.Tree(), want) || !reflect.DeepEqual(second, want) || !reflect.DeepEqual(other, want) || Form(erased, erased.Root) != form || !slices.Equal(again, walkOf(want, want.Root)) {
		t.Error("memory is shared")
	}
	at := b.At(len(want.Nodes) - 1)
	spoil(api.Tree{Nodes: []api.Node{at}})
	if !reflect.DeepEqual(b.Tree(), want) {
		t.Error("a node that was answered is kept")
	}
	spoil(Erase(want))
	if !reflect.DeepEqual(want, strictProgram()) {
		t.Error("what was erased is changed")
	}
}

// P2: no two lists of an answer share room.
func TestListsApart(t *testing.T) {
	room := []int{0, 1, 2, 3, 4, 5}
	p := api.Tree{Nodes: []api.Node{{Kids: room[:1], Ends: room[:2]}, {Kids: room[:3], Ends: room[2:4]}}}
	var b Builder
	b.Add(p.Nodes[0])
	b.Add(p.Nodes[1])
	for _, c := range []api.Tree{Clone(p), b.Tree()} {
		_ = append(c.Nodes[0].Kids[:0], 9)
		_ = append(c.Nodes[1].Ends[:0], 9, 9)
		_ = append(c.Nodes[0].Ends, 9, 9)
		if !slices.Equal(c.Nodes[0].Ends, []int{0, 1}) || !slices.Equal(c.Nodes[1].Kids, []int{0, 1, 2}) {
			t.Errorf("%v", c)
		}
	}
	if !slices.Equal(room, []int{0, 1, 2, 3, 4, 5}) {
		t.Error("what is handed in is changed")
	}
}

// P2: answered and kept texts are new memory.
func TestTextsAreNew(t *testing.T) {
	bytes := []byte("ab ?C")
	view := func(from, to int) string { return unsafe.String(&bytes[from], to-from) }
	field := api.Node{Kind: api.Field, Text: view(0, 2), Type: api.Type{Base: api.Class, Name: view(4, 5), Dims: 1, Marks: view(2, 4)}}
	plain := api.Type{Base: api.Class, Name: view(4, 5), Marks: " "}
	p := api.Tree{Nodes: []api.Node{field, {Kind: api.Program, Kids: []int{0}}}, Root: 1}
	want := strings.Clone(Form(p, 1))
	var b Builder
	b.Add(p.Nodes[0])
	b.Add(p.Nodes[1])
	all := []api.Tree{Clone(p), b.Tree(), Erase(p), {Nodes: []api.Node{b.At(0), b.At(1)}, Root: 1}}
	text, form := TypeText(plain), Form(p, 1)
	for i := range bytes {
		bytes[i] = 'x'
	}
	for i, c := range append(all, b.Tree()) {
		wanted := want
		if i == 2 {
			wanted = strings.ReplaceAll(want, "?", "")
		}
		if got := Form(c, 1); got != wanted {
			t.Errorf("%d: %s", i, got)
		}
	}
	if text != "C" || form != want {
		t.Errorf("%s %s", text, form)
	}
}
