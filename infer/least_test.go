package infer

import (
	"math/rand"
	"slices"
	"testing"

	"caulker/api"
	"caulker/base"
	"caulker/parse"
	"caulker/strict"
)

// right: is nothing wrong with a text's program, if it has these marks too, but that something is asked?
func right(t *testing.T, x *base.Info, text string, asks bool, list []strict.Place) bool {
	t.Helper()
	issues := strict.Look(known(t, with(x, text, list)), asks).Issues()
	return !slices.ContainsFunc(issues, func(i strict.Issue) bool { return i.Kind != strict.Asked })
}

// P22: of all sets of marks that are right, the one that is found is the least.
func TestLeast(t *testing.T) {
	for _, text := range []string{
		"class A { A f; A g(A a) { A b = a; this.g(null); return b; } }",
		"class A { void g() { A[] a = new A[2]; A[] b = a; A c = b[0]; A[] d = null; c.g(); } }",
		"class A { A g(A a) { return a; } } class B extends A { A g(A b) { return null; } } class C extends B { A g(A c) { return c; } }",
		"class A { void g(A p, A x, A y) { A a = x; a = null; a = x; y = a; x = p; this.g(null, x, y); } }",
		"class A { A[] f; A[] g(A[] a) { a[0] = ask(this); if (a != null) { return a; } return this.f; } }",
		"class A { void g(A[][] a) { A[][] b = new A[][1]; b[0] = a[0]; } }",
		"class A { A a; A b; init() { this.a = this.b; this.b = new A(); } void g(A c) { A d = c; A e = this.a; if (d == null) { d = e; } d = cast<A>(this.b); } }",
	} {
		text = main + text
		x := known(t, text)
		places := Places(x.Tree())
		for _, asks := range []bool{false, true} {
			found := hold(t, text, asks).marked
			sets := 0
			for set := range 1 << len(places) {
				var list []strict.Place
				for i, p := range places {
					if set>>i&1 == 1 {
						list = append(list, p)
					}
				}
				if !right(t, x, text, asks, list) {
					continue
				}
				sets++
				for _, p := range found {
					if !slices.Contains(list, p) {
						t.Errorf("of %s %v is right, not %v", text, list, found)
					}
				}
			}
			if sets == 0 || len(found) == 0 || !right(t, x, text, asks, found) {
				t.Errorf("of %s %v, of %d", text, found, sets)
			}
		}
	}
}

// P22: of programs made at chance no mark may be left out, and other ones that are right have all of these.
func TestFewest(t *testing.T) {
	c := &chance{Rand: rand.New(rand.NewSource(220))}
	more := 0
	for i := range 20 {
		text, asks := c.program(), i%2 == 0
		x := known(t, text)
		found := hold(t, text, asks).marked
		if !right(t, x, text, asks, found) {
			t.Fatalf("%v of %s", found, text)
		}
		for k := range found {
			if right(t, x, text, asks, slices.Delete(slices.Clone(found), k, k+1)) {
				t.Fatalf("%v isn't needed, of %s", found[k], text)
			}
		}
		begun := c.some(x, 6)
		r, f := Solve(known(t, with(x, text, begun)), asks)
		if r == nil {
			t.Fatal(f)
		}
		both := append(begun, r.Marked()...)
		if !right(t, x, text, asks, both) {
			t.Fatalf("%v of %s", both, text)
		}
		more += len(both) - len(found)
		for _, p := range found {
			if !slices.Contains(both, p) {
				t.Fatalf("%v is right, of %s", both, text)
			}
		}
	}
	if more < 30 {
		t.Errorf("but %d more", more)
	}
}

// guarded is a text with marks put in at some places, and guards behind some values.
func guarded(x *base.Info, text string, marks []strict.Place, values []int) string {
	ends := map[int]string{}
	for _, node := range values {
		ends[x.Node(node).To] += "!"
	}
	for _, p := range marks {
		ends[x.Node(p.Node).Ends[p.Layer]] += "?"
	}
	made := ""
	for i := range len(text) {
		made += ends[i] + text[i:i+1]
	}
	return made
}

// P22.2, P22.3: with the marks, and guards of what is a guard or a cut, nothing is wrong any more.
func TestGuarded(t *testing.T) {
	c := &chance{Rand: rand.New(rand.NewSource(221))}
	for i := range 60 {
		c.marks = i % 2 * 4
		text := c.program()
		x := known(t, text)
		var shut []strict.Place
		if i%3 > 0 {
			shut = c.some(x, 3)
		}
		for _, asks := range []bool{false, true} {
			f := hold(t, text, asks, shut...)
			values := append(f.guards, f.cuts...)
			made := guarded(x, text, f.marked, values)
			p, fault := parse.Parse(made)
			if fault != (api.Fault{}) {
				t.Fatalf("%v: %s", fault, made)
			}
			y, fault := base.Of(p)
			if y == nil {
				t.Fatalf("%v: %s", fault, made)
			}
			if issues := strict.Look(y, false).Issues(); len(issues) > 0 {
				t.Fatalf("%v: %s", issues, made)
			}
			for k := range f.guards {
				if !asks || len(f.cuts) > 0 { // a guard tells of what is named later, too
					break
				}
				less := guarded(x, text, f.marked, slices.Delete(slices.Clone(values), k, k+1))
				if k%9 == 0 && strict.Look(known(t, less), asks).Right() {
					t.Fatalf("a guard isn't needed: %s", less)
				}
			}
		}
	}
}

// mixed is a program whose nodes have other numbers, each still behind those that it is made of; and which number each has got.
func (c *chance) mixed(p api.Tree) (api.Tree, []int) {
	var nodes []api.Node
	to := make([]int, len(p.Nodes))
	var grow func(at int) int
	grow = func(at int) int {
		n := p.Nodes[at]
		kids := slices.Clone(n.Kids)
		for _, i := range c.Perm(len(kids)) {
			kids[i] = grow(n.Kids[i])
		}
		n.Kids = kids
		nodes = append(nodes, n)
		to[at] = len(nodes) - 1
		return to[at]
	}
	return api.Tree{Root: grow(p.Root), Nodes: nodes}, to
}

// P22.2 to P22.4: whatever numbers a program's nodes have, the same is found, and told by these.
func TestMixed(t *testing.T) {
	c := &chance{Rand: rand.New(rand.NewSource(222)), marks: 5, wild: 300}
	faults := 0
	for range 60 {
		x := known(t, c.program())
		p, to := c.mixed(x.Tree())
		y, f := base.Of(p)
		if y == nil {
			t.Fatal(f)
		}
		r, f := Solve(x, true)
		s, g := Solve(y, true)
		if f != g {
			t.Fatalf("%v, not %v", g, f)
		}
		if r == nil {
			faults++
			continue
		}
		want := map[Step]int{}
		move := func(p strict.Place) strict.Place {
			if p != strict.Nowhere() {
				p.Node = to[p.Node]
			}
			return p
		}
		for _, s := range r.Steps() {
			want[Step{move(s.From), move(s.To), s.Why, to[s.At]}]++
		}
		steps := s.Steps()
		for i, step := range steps {
			if want[step] != 1 || i > 0 && !before(steps[i-1], step) {
				t.Fatalf("%v", step)
			}
		}
		var guards []int
		for _, node := range r.Guards() {
			guards = append(guards, to[node])
		}
		slices.Sort(guards)
		if len(steps) != len(want) || r.Rounds() != s.Rounds() || !slices.Equal(s.Guards(), guards) || !slices.IsSortedFunc(s.Marked(), func(a, b strict.Place) int { return slices.Compare([]int{a.Node, a.Layer}, []int{b.Node, b.Layer}) }) || len(s.Marked()) != len(r.Marked()) {
			t.Fatalf("%v, not %v", steps, r.Steps())
		}
		holdPaths(t, s, y, "mixed")
	}
	if faults == 0 || faults > 40 {
		t.Errorf("%d faults", faults)
	}
}
