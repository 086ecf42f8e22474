package eval

import (
	"math"
	"math/rand"
	"slices"
	"testing"

	"caulker/api"
	"caulker/base"
	"caulker/parse"
	"caulker/tree"
)

// raw is a program that is built, all of whose values have types.
func raw(t *testing.T, whole *plant) *base.Info {
	t.Helper()
	x, f := base.Of(whole.tree())
	if x == nil {
		p := whole.tree()
		t.Fatalf("%v of %.2000s", f, tree.Form(p, p.Root))
	}
	return x
}

// this is this.
func this() *plant { return of(api.This, "") }

// once calls a method f of this with one less than n.
func once() *plant {
	return of(api.Call, "f", this(), of(api.Binary, "-", of(api.Var, "n"), number(1)))
}

// wrap puts as many nodes around a value or a statement as there may be in all, each by the same function.
func wrap(p *plant, each int, by func(*plant) *plant) *plant {
	for range (tree.MaxNodes - 100) / each {
		p = by(p)
	}
	return p
}

// P1: values and statements in one another, as many as there may be, in each of as many calls as there may be.
func TestDeepest(t *testing.T) {
	ints := api.Type{Base: api.Int, Dims: 1, Marks: "  "}
	w := object("Main")
	yes := func() *plant { return &plant{node: api.Node{Kind: api.BoolLit, N: 1}} }
	for name, x := range map[string]struct {
		of   api.Type
		each int
		by   func(*plant) *plant
	}{
		"neg":      {plain(api.Int), 1, func(p *plant) *plant { return of(api.Neg, "", p) }},
		"second":   {plain(api.Int), 2, func(p *plant) *plant { return of(api.Binary, "+", number(0), p) }},
		"and":      {plain(api.Bool), 2, func(p *plant) *plant { return of(api.Binary, "&&", yes(), p) }},
		"length":   {plain(api.Int), 2, func(p *plant) *plant { return of(api.Length, "", of(api.NewArray, "", p)) }},
		"index":    {plain(api.Int), 3, func(p *plant) *plant { return of(api.Index, "", of(api.Get, "l", this()), p) }},
		"receiver": {w, 1, func(p *plant) *plant { return of(api.Call, "m", p) }},
		"argument": {w, 2, func(p *plant) *plant { return of(api.Call, "it", this(), p) }},
		"new":      {object("W"), 1, func(p *plant) *plant { return of(api.New, "", p).as(object("W")) }},
	} {
		zero := of(api.NullLit, "")
		if kind := x.of.Base; kind != api.Class {
			zero = &plant{node: api.Node{Kind: map[int]int{api.Int: api.IntLit, api.Bool: api.BoolLit}[kind]}}
		}
		end := of(api.If, "", of(api.Binary, "<=", of(api.Var, "n"), number(0)), block(gives(zero)))
		f := of(api.Method, "f", of(api.Param, "n"), block(end, gives(wrap(once(), x.each, x.by)))).as(x.of)
		whole := mine([]*plant{
			of(api.Field, "m").as(w), of(api.Field, "l").as(ints), f,
			of(api.Method, "m", block(gives(of(api.Get, "m", this())))).as(w), of(api.Method, "it", of(api.Param, "a").as(w), block(gives(of(api.Var, "a")))).as(w),
		}, of(api.Assign, "", of(api.Get, "m", this()), this()), of(api.Assign, "", of(api.Get, "l", this()), of(api.NewArray, "", number(1)).as(plain(api.Int))),
			of(api.Expr, "", of(api.Call, "f", this(), of(api.Input, ""))), gives(number(3)))
		whole.kids = append(whole.kids, of(api.ClassOf, "W", of(api.Init, "", of(api.Param, "w").as(object("W")), block())))
		p := raw(t, whole)
		if run := Run(p, []int64{98}, 1<<24); run.End == 0 || run.End == api.OutOfFuel || run.Why == api.ErrDeep || run.Steps < 98*(tree.MaxNodes-200)/2 {
			t.Errorf("%s: %d %v, in %d steps", name, run.End, run.Why, run.Steps)
		}
	}
}

// P1: statements, likewise.
func TestDeepestStatements(t *testing.T) {
	yes := func() *plant { return &plant{node: api.Node{Kind: api.BoolLit, N: 1}} }
	for name, x := range map[string]struct {
		each int
		by   func(*plant) *plant
	}{
		"block": {1, func(p *plant) *plant { return block(p) }},
		"if":    {3, func(p *plant) *plant { return of(api.If, "", yes(), block(p)) }},
		"else":  {5, func(p *plant) *plant { return of(api.If, "", of(api.Not, "", yes()), block(), block(p)) }},
		"while": {4, func(p *plant) *plant { return of(api.While, "", yes(), block(p, of(api.Break, ""))) }},
	} {
		end := of(api.If, "", of(api.Binary, "<=", of(api.Var, "n"), number(0)), block(gives(number(1))))
		f := of(api.Method, "f", of(api.Param, "n"), block(end, wrap(of(api.Expr, "", once()), x.each, x.by), gives(number(2))))
		p := raw(t, mine([]*plant{f}, gives(of(api.Call, "f", this(), of(api.Input, "")))))
		if run := Run(p, []int64{98}, 1<<24); run.End != api.Done || run.Result != 2 {
			t.Errorf("%s: %d %v, in %d steps", name, run.End, run.Why, run.Steps)
		}
	}
}

// P16.3: a body whose end is come to answers nothing.
func TestFalls(t *testing.T) {
	x := known(t, "class Main { int main() { print(1); } }")
	if run := hold(t, x, nil, 100); !like(run, api.Run{End: api.Done, Out: []api.Out{{Base: api.Int, N: 1}}, Steps: 3}) {
		t.Errorf("%v", run)
	}
	for text, want := range map[string]int{
		"print(this.f().n);": api.NullFault, "this.f().n = 1;": api.NullFault, "this.f().f();": api.NullFault, "print(this.l()[1 / 0]);": api.NullFault, "print(this.l().length);": api.NullFault,
		"Option<Main> o = this.f(); if (o is some) { print(1 / 0); } Main m = o.val;": api.NullFault, "Main m = this.f(); if (m == this) { print(1 / 0); }": api.Done, "this.f(); this.n();": api.Done, "int n = this.n(); print(2);": api.Done, "this.v();": api.Done,
	} {
		run := Run(known(t, "class Main { int n; Main f() { this.n = 1; } int n() { } int[] l() { while (false) { return null; } } void v() { } int main() { "+text+" return 5; } }"), nil, 1000)
		if run.End != want || run.Result != map[int]int64{api.Done: 5}[want] {
			t.Errorf("%v of %s", run, text)
		}
	}
	for _, sign := range []string{"+", "-", "*", "/", "%", "<", "==", "!="} {
		for _, of := range []string{"int", "double", "str", "bool"} {
			p, f := parse.Parse("class Main { " + of + " f() { } int main() { print(this.f() " + sign + " this.f()); return 0; } }")
			if f != (api.Fault{}) {
				t.Fatal(f)
			}
			if x, _ := base.Of(p); x != nil && Run(x, nil, 1000).End == 0 {
				t.Errorf("%s %s", of, sign)
			}
		}
	}
}

// shuffled is the same program, its nodes numbered otherwise.
func shuffled(r *rand.Rand, p api.Tree) api.Tree {
	waits := make([]int, len(p.Nodes)) // for how many nodes each one waits that it is made of
	owner := map[int]int{}
	var ready []int
	for i, n := range p.Nodes {
		waits[i] = len(n.Kids)
		for _, kid := range n.Kids {
			owner[kid] = i
		}
		if len(n.Kids) == 0 {
			ready = append(ready, i)
		}
	}
	var made api.Tree
	number := map[int]int{}
	for len(ready) > 0 {
		k := r.Intn(len(ready))
		i := ready[k]
		ready = slices.Delete(ready, k, k+1)
		n := p.Nodes[i]
		n.Kids = slices.Clone(n.Kids)
		for j, kid := range n.Kids {
			n.Kids[j] = number[kid]
		}
		number[i] = len(made.Nodes)
		made.Nodes = append(made.Nodes, n)
		if i == p.Root {
			break
		}
		if waits[owner[i]]--; waits[owner[i]] == 0 {
			ready = append(ready, owner[i])
		}
	}
	made.Root = len(made.Nodes) - 1
	return made
}

// P16.1: a run hangs on what its nodes are made of, not on their numbers.
func TestNumbers(t *testing.T) {
	c := &chance{Rand: rand.New(rand.NewSource(17))}
	for range 100 {
		x := known(t, c.program())
		y, f := base.Of(shuffled(c.Rand, x.Tree()))
		if y == nil {
			t.Fatalf("%v", f)
		}
		in, fuel := c.numbers(), c.Intn(3000)
		if a, b := Run(x, in, fuel), Run(y, in, fuel); !like(a, b) {
			t.Errorf("%v, not %v", b, a)
		}
	}
}

// P1: objects where arrays or numbers are wanted, as no text makes them: their runs end all the same.
func TestOddObjects(t *testing.T) {
	as, w := api.Type{Base: api.Class, Name: "Main", Dims: 1, Marks: "  "}, object("Main")
	list := func() *plant { return of(api.New, "").as(as) }
	for i, p := range []*plant{
		of(api.Print, "", of(api.Length, "", list())), of(api.Assign, "", of(api.Index, "", list(), number(0)), this()), of(api.Assign, "", of(api.Index, "", list(), number(9)), this()),
		of(api.Print, "", of(api.Get, "n", of(api.Index, "", list(), number(0)))), of(api.Print, "", of(api.Get, "n", of(api.Index, "", list(), number(1)))), of(api.Print, "", of(api.Get, "n", of(api.Index, "", list(), number(2)))),
		of(api.Expr, "", of(api.Call, "main", of(api.Index, "", list(), number(2)))), of(api.Expr, "", of(api.Call, "it", of(api.Index, "", list(), number(2)), number(1))), of(api.Assign, "", of(api.Get, "n", of(api.Index, "", list(), number(2))), number(1)),
		of(api.Print, "", of(api.New, "")), of(api.Print, "", of(api.Binary, "+", of(api.New, ""), number(1))), of(api.Print, "", of(api.Neg, "", of(api.New, ""))), of(api.Expr, "", of(api.New, "").as(plain(api.Str))),
		of(api.If, "", of(api.New, "").as(plain(api.Bool)), block()), of(api.Decl, "x", of(api.Cast, "", list()).as(as)).as(as), of(api.Decl, "x", of(api.Val, "", of(api.Var, "o"))).as(w),
		of(api.Print, "", of(api.BoolLit, "")), of(api.Print, "", &plant{node: api.Node{Kind: api.BoolLit, N: -7}}), of(api.Print, "", &plant{node: api.Node{Kind: api.DoubleLit, N: -1}}),
	} {
		members := []*plant{of(api.Field, "n"), of(api.Field, "l").as(as), of(api.Field, "d").as(w), of(api.Method, "it", of(api.Param, "i"), block(gives(number(1))))}
		option := of(api.Decl, "o", of(api.New, "").as(api.Type{Base: api.Class, Name: "Main", Marks: "o"})).as(api.Type{Base: api.Class, Name: "Main", Marks: "o"})
		set := of(api.Assign, "", of(api.Get, "d", this()), of(api.Index, "", of(api.NewArray, "", number(1)).as(w), number(0)))
		whole := mine(members, option, set, p, gives(number(3)))
		whole.kids = append(whole.kids, of(api.ClassOf, "", of(api.Field, "q"), of(api.Init, "", of(api.Param, "z"), block(of(api.Print, "", of(api.Var, "z"))))))
		if run := Run(raw(t, whole), nil, 1000); run.End == 0 || run.Steps == 0 {
			t.Errorf("%d: %v", i, run)
		}
	}
	whole := mine(nil, of(api.Expr, "", of(api.New, "")), gives(number(3)))
	whole.kids = append(whole.kids, of(api.ClassOf, "", of(api.Field, "q"), of(api.Init, "", block(of(api.Print, "", number(1))))))
	if run := Run(raw(t, whole), nil, 1000); !like(run, api.Run{End: api.Done, Result: 3, Steps: 5}) {
		t.Errorf("what is no class has no init: %v", run)
	}
}

// P1: an object that hasn't what is asked of it, as it came out of an object that was taken for an array.
func TestOddMembers(t *testing.T) {
	for _, asked := range []string{"print(l[0].n);", "l[0].n = 1;", "print(l[0].f());", "l[0].l = l; print(l[0].f());", "print(l[0] == l[1]); l[0].f();"} {
		p, f := parse.Parse("class Y { } class X { Y y; int n; X[] l; init() { this.y = new Y(); } int f() { return 1; } } class Main { int main() { X[] l = cast<X[]>(null); " + asked + " return 1; } }")
		if f != (api.Fault{}) {
			t.Fatal(f)
		}
		for i, n := range p.Nodes {
			if n.Kind == api.Cast {
				p.Nodes[i].Kind, p.Nodes[i].Kids = api.New, nil
			}
		}
		x, f := base.Of(loose(p))
		if x == nil {
			t.Fatalf("%v of %s", f, asked)
		}
		if run := Run(x, nil, 1000); run.End != api.OtherFault || run.Why != api.ErrMissing {
			t.Errorf("%v of %s", run, asked)
		}
	}
}

// loose is a program without the nodes that no other one is made of.
func loose(p api.Tree) api.Tree {
	var b tree.Builder
	number := map[int]int{}
	held := tree.Walk(p, p.Root)
	for i, n := range p.Nodes {
		if !slices.Contains(held, i) {
			continue
		}
		n.Kids = slices.Clone(n.Kids)
		for j, kid := range n.Kids {
			n.Kids[j] = number[kid]
		}
		number[i], _ = b.Add(n)
	}
	return b.Tree()
}

// P16.2: the init of an ancestor that has no name.
func TestNoName(t *testing.T) {
	nameless := of(api.ClassOf, "", of(api.Field, "q"), of(api.Init, "", of(api.Param, "z"), block(of(api.Assign, "", of(api.Get, "q", this()), of(api.Var, "z")))))
	below := of(api.ClassOf, "Below", of(api.Ancestor, ""), of(api.Init, "", block(of(api.Super, "", number(4)))))
	whole := mine(nil, gives(of(api.Get, "q", of(api.New, "").as(object("Below")))))
	whole.kids = append(whole.kids, nameless, below)
	if run := Run(raw(t, whole), nil, 1000); run.End != api.Done || run.Result != 4 {
		t.Errorf("%v", run)
	}
}

// P1: programs that are changed at chance, but are still ones whose values have types, end as a run may end.
func TestChanged(t *testing.T) {
	c := &chance{Rand: rand.New(rand.NewSource(18))}
	types := []api.Type{plain(api.Int), plain(api.Bool), plain(api.Str), object("A"), object("B"), object("C"), object("Main"), {Base: api.Class, Name: "A", Dims: 1, Marks: "  "}, {Base: api.Class, Name: "A", Marks: "o"}, {Base: api.Int, Dims: 1, Marks: " o"}, {Base: api.Class, Name: "B", Dims: 1, Marks: "o?"}}
	changed := 0
	for range 150 {
		x := known(t, c.program())
		for range 20 {
			p := x.Tree()
			for range 1 + c.Intn(3) {
				n, m := &p.Nodes[c.Intn(len(p.Nodes))], p.Nodes[c.Intn(len(p.Nodes))]
				switch {
				case n.Kind == api.IntLit:
					n.N = []int64{-1, 70000, 1 << 62}[c.Intn(3)]
				case n.Kind == api.New || n.Kind == api.Cast || n.Kind == api.NewArray:
					n.Type = types[c.Intn(len(types))]
				case len(n.Kids) == len(m.Kids) && tree.Value(n.Kind) == tree.Value(m.Kind):
					n.Kind, n.Text, n.Type, n.N = m.Kind, m.Text, m.Type, m.N
				}
			}
			y, _ := base.Of(p)
			if y == nil {
				continue
			}
			changed++
			fuel := c.Intn(2000)
			run := Run(y, c.numbers(), fuel)
			if run.End < api.Done || run.End > api.OutOfFuel || run.Steps > fuel || run.End == api.OutOfFuel && run.Steps != fuel || run.End != api.Done && run.Result != 0 || (run.Why != api.OK) != (run.End == api.OtherFault) {
				t.Fatalf("%v, with %d, of %s", run, fuel, tree.Form(p, p.Root))
			}
		}
	}
	if changed < 500 {
		t.Errorf("but %d", changed)
	}
}

// P1: all numbers, and as many to be read as there may be.
func TestArguments(t *testing.T) {
	x := known(t, "class Main { int main() { int s = 0; int i = 0; while (i < 50) { i = i + 1; s = s + input(); } return s; } }")
	in := make([]int64, 1<<16)
	for i := range in {
		in[i] = int64(i)
	}
	if run := Run(x, in, math.MaxInt); run.Result != 49*25 || run.End != api.Done {
		t.Errorf("%v", run)
	}
	if run := Run(x, []int64{math.MaxInt64, 1}, math.MaxInt); run.Result != math.MinInt64 {
		t.Errorf("%v", run)
	}
	if run := Run(x, nil, math.MinInt); !like(run, api.Run{End: api.OutOfFuel}) {
		t.Errorf("%v", run)
	}
}
