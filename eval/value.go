package eval

import (
	"caulker/api"
	"caulker/heap"
)

// value reckons one. All that are made of others, but for a new object, begin with their first one.
func (r *runner) value(node int) heap.Value {
	r.begin()
	n := &r.pieces[node]
	switch {
	case n.Kind == api.New:
		return r.create(n.Type.Name, r.values(n.Kids))
	case len(n.Kids) == 0:
		return r.single(n)
	}
	return r.made(n, r.value(n.Kids[0]))
}

// values reckons some, in order.
func (r *runner) values(list []int) []heap.Value {
	values := make([]heap.Value, len(list))
	for i, node := range list {
		values[i] = r.value(node)
	}
	return values
}

// holds reckons a condition: is it true?
func (r *runner) holds(node int) bool { return r.value(node).N != 0 }

// single: a value that is made of no others.
func (r *runner) single(n *piece) heap.Value {
	switch n.Kind {
	case api.IntLit:
		return heap.Int(n.N)
	case api.DoubleLit:
		return heap.Double(uint64(n.N))
	case api.BoolLit:
		return heap.Bool(n.N != 0)
	case api.StrLit:
		return heap.Str(n.Text)
	case api.NoneLit:
		return heap.Value{Kind: heap.None}
	case api.This:
		return r.this
	case api.Var:
		return r.locals[n.slot]
	case api.Input:
		return heap.Int(r.read())
	}
	return heap.Value{Kind: heap.Null}
}

// made: a value that is made of a first one, and perhaps of others.
func (r *runner) made(n *piece, v heap.Value) heap.Value {
	switch n.Kind {
	case api.Get, api.Index:
		return r.element(n, r.thing(v))
	case api.Length:
		return heap.Int(int64(r.heap.Len(r.thing(v))))
	case api.Call:
		to := r.thing(v)
		return r.send(to, n.Text, r.values(n.Kids[1:]))
	case api.NewArray:
		list, e := r.heap.Array(n.Type, v.N)
		r.want(e)
		return list
	case api.Cast:
		return r.cast(n, v)
	case api.Binary:
		return r.binary(n, v)
	case api.Neg, api.Not, api.ToInt, api.ToDouble:
		return turned(n, v)
	}
	return r.marked(n, v)
}

// thing: a value that something is asked of, if it is an object or an array.
func (r *runner) thing(v heap.Value) heap.Value {
	if v.Kind != heap.Ref {
		r.end(api.NullFault, api.OK)
	}
	return v
}

// number: which field or element of a thing is meant.
func (r *runner) number(n *piece, thing heap.Value) int64 {
	if n.Kind == api.Index {
		return r.value(n.Kids[1]).N
	}
	class, _ := r.heap.Class(thing)
	number, ok := r.kin(class).numbers[n.Text]
	if !ok {
		r.want(api.ErrMissing)
	}
	return int64(number)
}

// element: a field or an element of a thing.
func (r *runner) element(n *piece, thing heap.Value) heap.Value {
	v, e := r.heap.Load(thing, r.number(n, thing))
	r.want(e)
	return v
}

// cast: a value, if it may be of a type: an object's class must be that or come from it.
func (r *runner) cast(n *piece, v heap.Value) heap.Value {
	if class, ok := r.heap.Class(v); ok && !r.program.Table().Sub(class, n.Type.Name) {
		r.want(api.ErrKind)
	}
	return v
}

// marked: what an ask, a guard or an option makes of a value, or asks of it.
func (r *runner) marked(n *piece, v heap.Value) heap.Value {
	held := v.Kind == heap.Some
	switch n.Kind {
	case api.Ask:
		if r.read() == 0 {
			return heap.Value{Kind: heap.Null}
		}
	case api.Guard:
		if held || v.Kind == heap.Null || v.Kind == heap.None {
			r.end(api.GuardFault, api.OK)
		}
	case api.Some:
		return heap.Wrap(v)
	case api.IsSome:
		return heap.Bool(held)
	case api.IsNone:
		return heap.Bool(!held)
	case api.Val:
		if !held {
			r.end(api.NullFault, api.OK)
		}
		return heap.Open(v)
	}
	return v
}
