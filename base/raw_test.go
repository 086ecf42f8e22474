package base

import (
	"testing"

	"caulker/api"
	"caulker/tree"
)

// wrongAt holds a raw program to what is wrong in it, at a plant; or to that nothing is, if there is none.
func wrongAt(t *testing.T, whole *plant, code api.Errno, at *plant) {
	t.Helper()
	p := whole.tree()
	if e := tree.Check(p); e != api.OK {
		t.Fatalf("%d: %v", e, p)
	}
	want := api.Fault{Code: code}
	if at != nil {
		want.At = p.Nodes[at.at].From
	}
	if f := hold(t, p); f != want {
		t.Errorf("%v, not %v, of %s", f, want, tree.Form(p, p.Root))
	}
}

// P13.2: each kind of node where a statement is wanted.
func TestStatementKinds(t *testing.T) {
	for kind := 1; kind < api.Kinds; kind++ {
		p := smallest(kind, func() *plant { return of(api.Block, "") })
		code, at := api.ErrPlace, p
		switch kind {
		case api.Block, api.Decl, api.Return:
			code, at = api.OK, nil
		case api.Assign, api.If, api.While, api.Print, api.Expr:
			at = p.kids[0] // where a value is wanted
		}
		wrongAt(t, main(p), code, at)
		wrongAt(t, main(of(api.Block, "", of(api.Block, ""), p)), code, at)
	}
}

// P13.2 to P13.4: each kind of node at each place where a value is wanted.
func TestValueKinds(t *testing.T) {
	x, a := func() *plant { return of(api.Var, "x") }, func() *plant { return of(api.Var, "a") }
	ints := api.Type{Base: api.Int, Dims: 1, Marks: "  "}
	for i, with := range []func(p *plant) *plant{
		func(p *plant) *plant { return of(api.Decl, "y", p) },
		func(p *plant) *plant { return of(api.Assign, "", p, x()) },
		func(p *plant) *plant { return of(api.Assign, "", x(), p) },
		func(p *plant) *plant { return of(api.If, "", p, of(api.Block, "")) },
		func(p *plant) *plant { return of(api.While, "", p, of(api.Block, "")) },
		func(p *plant) *plant { return of(api.Print, "", p) },
		func(p *plant) *plant { return of(api.Expr, "", p) },
		func(p *plant) *plant { return of(api.Print, "", of(api.Get, "m", p)) },
		func(p *plant) *plant { return of(api.Expr, "", of(api.Call, "main", p)) },
		func(p *plant) *plant { return of(api.Expr, "", of(api.Call, "it", a(), p, a())) },
		func(p *plant) *plant { return of(api.Expr, "", of(api.Call, "it", a(), x(), p)) },
		func(p *plant) *plant { return of(api.Print, "", of(api.Index, "", p, x())) },
		func(p *plant) *plant {
			return of(api.Print, "", of(api.Index, "", of(api.Cast, "", of(api.NullLit, "")).as(ints), p))
		},
		func(p *plant) *plant { return of(api.Print, "", of(api.Length, "", p)) },
		func(p *plant) *plant { return of(api.Print, "", of(api.NewArray, "", p)) },
		func(p *plant) *plant { return of(api.Print, "", of(api.Neg, "", p)) },
		func(p *plant) *plant { return of(api.Print, "", of(api.Not, "", p)) },
		func(p *plant) *plant { return of(api.Print, "", of(api.Binary, "+", p, x())) },
		func(p *plant) *plant { return of(api.Print, "", of(api.Binary, "==", x(), p)) },
		func(p *plant) *plant { return of(api.Print, "", of(api.Cast, "", p).as(ints)) },
		func(p *plant) *plant { return of(api.Print, "", of(api.ToInt, "", p)) },
		func(p *plant) *plant { return of(api.Print, "", of(api.ToDouble, "", p)) },
		func(p *plant) *plant { return of(api.Print, "", of(api.Ask, "", p)) },
		func(p *plant) *plant { return of(api.Print, "", of(api.Guard, "", p)) },
		func(p *plant) *plant { return of(api.Print, "", of(api.Some, "", p)) },
		func(p *plant) *plant { return of(api.Print, "", of(api.IsSome, "", p)) },
		func(p *plant) *plant { return of(api.Print, "", of(api.IsNone, "", p)) },
		func(p *plant) *plant { return of(api.Print, "", of(api.Val, "", p)) },
	} {
		for kind := 1; kind < api.Kinds; kind++ {
			p := smallest(kind, x)
			whole := main(with(p))
			if tree.Value(kind) {
				hold(t, whole.tree())
				continue
			}
			if p = smallest(kind, func() *plant { return of(api.Block, "") }); kind == api.ClassOf && i == 0 {
				p.kids = append(p.kids, of(api.Field, "q"))
			}
			wrongAt(t, main(with(p)), api.ErrPlace, p)
		}
	}
}

// P13.2: what isn't a block behind a condition is told once those ahead of it were looked at.
func TestBranches(t *testing.T) {
	yes := func() *plant { return of(api.BoolLit, "") }
	wrong := func() *plant { return of(api.Print, "", of(api.NullLit, "")) }
	for _, p := range []*plant{of(api.Return, ""), of(api.If, "", yes(), of(api.Block, "")), of(api.IntLit, ""), of(api.Break, "")} {
		wrongAt(t, main(of(api.If, "", yes(), p)), api.ErrPlace, p)
		wrongAt(t, main(of(api.While, "", yes(), p)), api.ErrPlace, p)
		wrongAt(t, main(of(api.If, "", yes(), of(api.Block, ""), p)), api.ErrPlace, p)
		wrongAt(t, main(of(api.If, "", yes(), p, of(api.Block, "", wrong()))), api.ErrPlace, p)
		inner := wrong()
		wrongAt(t, main(of(api.If, "", yes(), of(api.Block, "", inner), p)), api.ErrKind, inner.kids[0])
		number := of(api.IntLit, "")
		wrongAt(t, main(of(api.While, "", number, p)), api.ErrKind, number)
	}
}

// P13.2 to P13.4: what is void, ahead of what else is wrong with it.
func TestVoid(t *testing.T) {
	void, wrong := plain(api.Void), func() *plant { return of(api.Not, "", of(api.IntLit, "")) }
	p := of(api.Decl, "y").as(void)
	wrongAt(t, main(p), api.ErrKind, p)
	p = of(api.Decl, "y", wrong()).as(void)
	wrongAt(t, main(p), api.ErrKind, p)
	p = of(api.New, "", wrong()).as(void)
	wrongAt(t, main(of(api.Expr, "", p)), api.ErrKind, p)
	p = of(api.NewArray, "", wrong()).as(void)
	wrongAt(t, main(of(api.Print, "", p)), api.ErrKind, p)
	p = of(api.Cast, "", wrong()).as(void)
	wrongAt(t, main(of(api.Print, "", p)), api.ErrKind, p)

	for _, kind := range []int{api.Method, api.Init} {
		whole := main()
		class := whole.kids[0]
		p = of(api.Param, "b").as(void)
		class.kids = append(class.kids, of(api.Method, "last", of(api.Param, "a"), p, of(api.Param, "c").as(void), of(api.Block, "", of(api.Break, ""))))
		if kind == api.Init {
			class.kids[len(class.kids)-1].node = api.Node{Kind: api.Init}
			class.node.Text = "Other"
			whole.kids = append(whole.kids, of(api.ClassOf, "Main", of(api.Method, "main", of(api.Block, ""))))
			class.kids[0].as(plain(api.Int))
			class.kids[2].kids[1].as(plain(api.Int))
		}
		wrongAt(t, whole, api.ErrKind, p)
	}

	whole := main() // a field may be void; nothing comes of it, and nothing fits it
	whole.kids[0].kids[0].as(void)
	wrongAt(t, whole, api.OK, nil)
	get := of(api.Get, "m", of(api.This, ""))
	whole = main(of(api.Print, "", get))
	whole.kids[0].kids[0].as(void)
	wrongAt(t, whole, api.ErrKind, get)
}

// P13.3, P13.4: types that are named by what makes values, some of them such as no text has.
func TestNamed(t *testing.T) {
	for _, x := range []struct {
		kind int
		t    api.Type
		code api.Errno
		want api.Type
	}{
		{api.NewArray, api.Type{Base: api.Int, Dims: 3, Marks: "  ? "}, api.OK, api.Type{Base: api.Int, Dims: 4, Marks: "  ?  "}},
		{api.NewArray, api.Type{Base: api.Int, Dims: 4, Marks: "     "}, api.ErrLong, api.Type{}},
		{api.NewArray, api.Type{Base: api.Class, Name: "Main", Dims: 4, Marks: "?????"}, api.ErrLong, api.Type{}},
		{api.NewArray, api.Type{Base: api.Class, Name: "Main", Marks: "o"}, api.ErrKind, api.Type{}},
		{api.NewArray, api.Type{Base: api.Int, Dims: 4, Marks: "    o"}, api.ErrKind, api.Type{}},
		{api.NewArray, api.Type{Base: api.Class, Name: "Main", Marks: "?"}, api.OK, api.Type{Base: api.Class, Name: "Main", Dims: 1, Marks: "? "}},
		{api.New, object("Main"), api.OK, object("Main")},
		{api.New, api.Type{Base: api.Class, Name: "Main", Marks: "?"}, api.OK, api.Type{Base: api.Class, Name: "Main", Marks: "?"}},
		{api.New, plain(api.Int), api.OK, plain(api.Int)},
	} {
		p := of(x.kind, "").as(x.t)
		statement := of(api.Expr, "", p)
		if x.kind == api.NewArray {
			p.kids = append(p.kids, of(api.IntLit, ""))
			statement = of(api.Print, "", of(api.Length, "", p))
		}
		if x.code != api.OK {
			wrongAt(t, main(statement), x.code, p)
			continue
		}
		known, f := Of(main(statement).tree())
		if known == nil || known.Type(p.at) != x.want {
			t.Errorf("%v: %v", x.t, f)
		}
	}
}

// P13.4: signs that there aren't.
func TestSigns(t *testing.T) {
	for _, sign := range []string{"", "&", "=", "===", "+ ", "and", "<<", "!", ">=<", "--"} {
		for _, kind := range []int{api.IntLit, api.BoolLit, api.StrLit, api.NullLit, api.DoubleLit} {
			p := of(kind, "")
			wrongAt(t, main(of(api.Print, "", of(api.Binary, sign, of(kind, ""), p))), api.ErrKind, p)
		}
	}
}

// P13.2, P13.3: classes without a name: they have what they have, but their type may not be.
func TestNoName(t *testing.T) {
	get := of(api.Get, "n", of(api.This, ""))
	nameless := of(api.ClassOf, "", of(api.Field, "n"), of(api.Method, "f", of(api.Block, "", of(api.Return, "", get))), of(api.Init, "", of(api.Param, "p"), of(api.Block, "")))
	whole := main()
	whole.kids = append(whole.kids, nameless)
	wrongAt(t, whole, api.OK, nil)
	asked := of(api.This, "")
	nameless.kids[1].kids[0].kids[0] = of(api.Return, "", of(api.Get, "n", of(api.Guard, "", asked)))
	wrongAt(t, whole, api.ErrKind, asked)

	below := of(api.ClassOf, "Below", of(api.Ancestor, ""), of(api.Init, "", of(api.Block, "")))
	nameless.kids = nameless.kids[:1]
	whole.kids = append(whole.kids, below)
	wrongAt(t, whole, api.OK, nil)
	nameless.kids = append(nameless.kids, of(api.Init, "", of(api.Block, "")))
	wrongAt(t, whole, api.ErrPlace, below.kids[1])
	below.kids[1].kids[0].kids = []*plant{of(api.Super, "")}
	wrongAt(t, whole, api.OK, nil)
}

// P13.4: what is no class has no init, not that of the class without a name either.
func TestNoClass(t *testing.T) {
	whole := main(of(api.Expr, "", of(api.New, "")))
	whole.kids = append(whole.kids, of(api.ClassOf, "", of(api.Init, "", of(api.Param, "p"), of(api.Block, ""))))
	wrongAt(t, whole, api.OK, nil)
}
