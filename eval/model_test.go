package eval

import (
	"math"
	"slices"
	"testing"

	"caulker/api"
	"caulker/base"
	"caulker/num"
	"caulker/tree"
)

// The model reckons with Go's own values: int64, bool, float64, string, a thing, an option, nothing (null), and absent (what answers nothing).
type (
	thing struct {
		class  string
		fields map[string]any
		list   []any
	}
	option  struct{ holds *thing }
	nothing struct{}
	absent  struct{}
)

// todo is what comes next; none is the end.
type todo func() todo

// under is a call that is under way.
type under struct {
	owner string
	this  *thing
	names map[string]any
	depth int
	back  func(any) todo
	leave []func() todo // behind each loop
	again []func() todo // its condition
}

// model is the document's run, told as what comes behind what.
type model struct {
	*base.Info
	api.Tree
	bodies         []base.Body
	in             []int64
	fuel           int
	run            api.Run
	objects, cells int
}

// modelRun is how a program runs.
func modelRun(x *base.Info, in []int64, fuel int) api.Run {
	m := &model{Info: x, Tree: x.Tree(), bodies: x.Bodies(), in: slices.Clone(in), fuel: max(fuel, 0)}
	next := m.create("Main", nil, 0, func(v any) todo {
		return m.call(v.(*thing), m.method("Main", "main"), nil, 1, func(answer any) todo {
			m.run.End = api.Done
			m.run.Result, _ = answer.(int64)
			return nil
		})
	})
	for next != nil {
		next = next()
	}
	return m.run
}

// stop ends the run.
func (m *model) stop(end int, why api.Errno) todo {
	m.run.End, m.run.Why = end, why
	return nil
}

// step is what is done behind a step.
func (m *model) step(then func() todo) todo {
	return func() todo {
		if m.run.Steps == m.fuel {
			return m.stop(api.OutOfFuel, 0)
		}
		m.run.Steps++
		return then()
	}
}

// body is the one whose node this is.
func (m *model) body(node int) base.Body {
	return m.bodies[slices.IndexFunc(m.bodies, func(b base.Body) bool { return b.Node == node })]
}

// method is the node of the method that a class has.
func (m *model) method(class, name string) int {
	f, _ := m.Table().Method(class, name)
	return f.Node
}

// room is whether so many cells more, and one thing, may be.
func (m *model) room(cells int) bool {
	if m.objects == 4096 || cells > 65536-m.cells {
		return false
	}
	m.objects++
	m.cells += cells
	return true
}

// first is what a type's cells are at first.
func first(t api.Type) any {
	switch {
	case t.Marks[len(t.Marks)-1] == 'o':
		return option{}
	case t.Dims > 0 || t.Base == api.Class:
		return nothing{}
	}
	return map[int]any{api.Int: int64(0), api.Bool: false, api.Double: 0.0, api.Str: ""}[t.Base]
}

// create makes an object, within so many calls.
func (m *model) create(class string, args []any, depth int, then func(any) todo) todo {
	made := &thing{class: class, fields: map[string]any{}}
	for _, f := range m.Table().Fields(class) {
		made.fields[f.Name] = first(f.Type)
	}
	if !m.room(len(made.fields)) {
		return m.stop(api.OtherFault, api.ErrLong)
	}
	init, ok := m.Table().Init(class)
	if !ok {
		return then(made)
	}
	return m.call(made, init.Node, args, depth+1, func(any) todo { return then(made) })
}

// call runs a body as the call of this depth.
func (m *model) call(this *thing, node int, args []any, depth int, then func(any) todo) todo {
	if depth > 100 {
		return m.stop(api.OtherFault, api.ErrDeep)
	}
	c := &under{owner: m.body(node).Owner, this: this, names: map[string]any{}, depth: depth, back: then}
	kids := m.Nodes[node].Kids
	for i, param := range kids[:len(kids)-1] {
		c.names[m.Nodes[param].Text] = args[i]
	}
	return m.stat(c, kids[len(kids)-1], func() todo { return then(absent{}) })
}

// stat runs a statement.
func (m *model) stat(c *under, node int, then func() todo) todo {
	n := m.Nodes[node]
	return m.step(func() todo {
		switch n.Kind {
		case api.Block:
			return m.block(c, n.Kids, then)
		case api.If:
			return m.value(c, n.Kids[0], func(v any) todo {
				switch {
				case v.(bool):
					return m.stat(c, n.Kids[1], then)
				case len(n.Kids) == 3:
					return m.stat(c, n.Kids[2], then)
				}
				return then()
			})
		case api.While:
			var head func() todo
			inner := *c
			head = func() todo {
				return m.value(&inner, n.Kids[0], func(v any) todo {
					if v.(bool) {
						return m.stat(&inner, n.Kids[1], head)
					}
					return then()
				})
			}
			inner.leave, inner.again = append(slices.Clone(c.leave), then), append(slices.Clone(c.again), head)
			return head()
		case api.Break:
			return c.leave[len(c.leave)-1]()
		case api.Continue:
			return c.again[len(c.again)-1]()
		case api.Return:
			return m.values(c, n.Kids, func(list []any) todo { return c.back(append(list, absent{})[0]) })
		}
		return m.act(c, n, then)
	})
}

// block runs statements.
func (m *model) block(c *under, list []int, then func() todo) todo {
	if len(list) == 0 {
		return then()
	}
	return m.stat(c, list[0], func() todo { return m.block(c, list[1:], then) })
}

// act runs a statement behind which the next one comes.
func (m *model) act(c *under, n api.Node, then func() todo) todo {
	switch n.Kind {
	case api.Decl:
		return m.values(c, n.Kids, func(list []any) todo {
			c.names[n.Text] = append(list, first(n.Type))[0]
			return then()
		})
	case api.Assign:
		return m.assign(c, m.Nodes[n.Kids[0]], n.Kids[1], then)
	case api.Super:
		return m.values(c, n.Kids, func(list []any) todo {
			init, _ := m.Table().Init(m.Table().Chain(c.owner)[1])
			return m.call(c.this, init.Node, list, c.depth+1, func(any) todo { return then() })
		})
	}
	return m.value(c, n.Kids[0], func(v any) todo {
		if n.Kind == api.Print {
			if len(m.run.Out) == 1024 {
				return m.stop(api.OtherFault, api.ErrLong)
			}
			m.run.Out = append(m.run.Out, printed(v))
		}
		return then()
	})
}

// printed is a value that is printed.
func printed(v any) api.Out {
	switch v := v.(type) {
	case int64:
		return api.Out{Base: api.Int, N: v}
	case bool:
		return api.Out{Base: api.Bool, N: map[bool]int64{true: 1}[v]}
	case float64:
		if v != v {
			return api.Out{Base: api.Double, N: num.NaN}
		}
		return api.Out{Base: api.Double, N: int64(math.Float64bits(v))}
	}
	return api.Out{Base: api.Str, S: v.(string)}
}

// assign runs an assignment.
func (m *model) assign(c *under, to api.Node, value int, then func() todo) todo {
	if to.Kind == api.Var {
		return m.value(c, value, func(v any) todo {
			c.names[to.Text] = v
			return then()
		})
	}
	return m.step(func() todo {
		return m.value(c, to.Kids[0], func(v any) todo {
			at, ok := v.(*thing)
			if !ok {
				return m.stop(api.NullFault, 0)
			}
			return m.values(c, append(slices.Clone(to.Kids[1:]), value), func(list []any) todo {
				if to.Kind == api.Get {
					at.fields[to.Text] = list[0]
					return then()
				}
				i := list[0].(int64)
				if i < 0 || i >= int64(len(at.list)) {
					return m.stop(api.OtherFault, api.ErrRange)
				}
				at.list[i] = list[1]
				return then()
			})
		})
	})
}

// values reckons values, one by one.
func (m *model) values(c *under, nodes []int, then func([]any) todo) todo {
	if len(nodes) == 0 {
		return then(nil)
	}
	return m.value(c, nodes[0], func(v any) todo {
		return m.values(c, nodes[1:], func(list []any) todo { return then(append([]any{v}, list...)) })
	})
}

// value reckons one.
func (m *model) value(c *under, node int, then func(any) todo) todo {
	n := m.Nodes[node]
	return m.step(func() todo {
		if n.Kind == api.New {
			return m.values(c, n.Kids, func(list []any) todo { return m.create(n.Type.Name, list, c.depth, then) })
		}
		if len(n.Kids) == 0 {
			return then(m.leaf(c, n))
		}
		return m.value(c, n.Kids[0], func(a any) todo {
			if at, ok := a.(*thing); slices.Contains([]int{api.Get, api.Call, api.Index, api.Length}, n.Kind) {
				if !ok {
					return m.stop(api.NullFault, 0)
				}
				return m.asked(c, n, at, then)
			}
			if truth, ok := a.(bool); ok && (n.Text == "&&" && !truth || n.Text == "||" && truth) {
				return then(a)
			}
			return m.values(c, n.Kids[1:], func(list []any) todo { return m.of(n, append([]any{a}, list...), then) })
		})
	})
}

// leaf is a value that is made of no others.
func (m *model) leaf(c *under, n api.Node) any {
	switch n.Kind {
	case api.IntLit:
		return n.N
	case api.DoubleLit:
		return math.Float64frombits(uint64(n.N))
	case api.BoolLit:
		return n.N == 1
	case api.StrLit:
		return n.Text
	case api.NullLit:
		return nothing{}
	case api.NoneLit:
		return option{}
	case api.This:
		return c.this
	case api.Var:
		return c.names[n.Text]
	}
	return m.next()
}

// next is the next number of those that may be read.
func (m *model) next() int64 {
	m.in = append(m.in, 0)
	n := m.in[0]
	m.in = m.in[1:]
	return n
}

// asked asks something of a thing.
func (m *model) asked(c *under, n api.Node, at *thing, then func(any) todo) todo {
	return m.values(c, n.Kids[1:], func(list []any) todo {
		switch n.Kind {
		case api.Get:
			return then(at.fields[n.Text])
		case api.Call:
			return m.call(at, m.method(at.class, n.Text), list, c.depth+1, then)
		case api.Length:
			return then(int64(len(at.list)))
		}
		i := list[0].(int64)
		if i < 0 || i >= int64(len(at.list)) {
			return m.stop(api.OtherFault, api.ErrRange)
		}
		return then(at.list[i])
	})
}

// of makes a value of others.
func (m *model) of(n api.Node, list []any, then func(any) todo) todo {
	a := list[0]
	some, is := a.(option)
	is = is && some.holds != nil
	at, _ := a.(*thing)
	switch n.Kind {
	case api.NewArray:
		size := a.(int64)
		if size < 0 {
			return m.stop(api.OtherFault, api.ErrRange)
		}
		if size > 65536 || !m.room(int(size)) {
			return m.stop(api.OtherFault, api.ErrLong)
		}
		made := &thing{list: []any{}}
		for range size {
			made.list = append(made.list, first(n.Type))
		}
		return then(made)
	case api.Cast:
		if at != nil && at.list == nil && !slices.Contains(m.Table().Chain(at.class), n.Type.Name) {
			return m.stop(api.OtherFault, api.ErrKind)
		}
	case api.Ask:
		if m.next() == 0 {
			return then(nothing{})
		}
	case api.Guard:
		if at == nil {
			return m.stop(api.GuardFault, 0)
		}
	case api.Some:
		if at != nil {
			return then(option{at})
		}
	case api.IsSome:
		return then(is)
	case api.IsNone:
		return then(!is)
	case api.Val:
		if !is {
			return m.stop(api.NullFault, 0)
		}
		return then(some.holds)
	case api.Binary:
		return m.sign(n.Text, a, list[1], then)
	default:
		return then(turn(n.Kind, a))
	}
	return then(a)
}

// turn makes a number or a truth of one.
func turn(kind int, a any) any {
	switch v := a.(type) {
	case bool:
		return !v
	case int64:
		if kind == api.ToDouble {
			return float64(v)
		}
		return -v
	}
	v := a.(float64)
	switch {
	case kind == api.Neg:
		return -v
	case v != v:
		return int64(0)
	case v >= 9223372036854775808:
		return int64(math.MaxInt64)
	case v < -9223372036854775808:
		return int64(math.MinInt64)
	}
	return int64(v)
}

// sign makes a value of two.
func (m *model) sign(sign string, a, b any, then func(any) todo) todo {
	switch sign {
	case "==":
		return then(a == b)
	case "!=":
		return then(a != b)
	case "&&", "||":
		return then(b)
	}
	switch a := a.(type) {
	case int64:
		b := b.(int64)
		if b == 0 && (sign == "/" || sign == "%") {
			return m.stop(api.OtherFault, api.ErrRange)
		}
		switch sign {
		case "/":
			return then(a / b)
		case "%":
			return then(a % b)
		}
		return then(either(sign, a, b))
	case float64:
		if sign == "/" {
			return then(a / b.(float64))
		}
		return then(either(sign, a, b.(float64)))
	}
	s := a.(string) + b.(string)
	if len(s) > 1024 {
		return m.stop(api.OtherFault, api.ErrLong)
	}
	return then(s)
}

// either makes a value of two numbers by a sign that never fails.
func either[T int64 | float64](sign string, a, b T) any {
	switch sign {
	case "+":
		return a + b
	case "-":
		return a - b
	case "*":
		return a * b
	case "<":
		return a < b
	case "<=":
		return a <= b
	case ">":
		return a > b
	}
	return a >= b
}

// like is whether two runs are the same in all.
func like(a, b api.Run) bool {
	return a.End == b.End && a.Why == b.Why && a.Result == b.Result && a.Steps == b.Steps && slices.Equal(a.Out, b.Out)
}

// hold holds a program's run to the model's.
func hold(t *testing.T, x *base.Info, in []int64, fuel int) api.Run {
	t.Helper()
	got, want := Run(x, in, fuel), modelRun(x, in, fuel)
	if !like(got, want) {
		t.Fatalf("%v, not %v, with %v and %d, of %s", got, want, in, fuel, tree.Form(x.Tree(), x.Tree().Root))
	}
	return got
}
