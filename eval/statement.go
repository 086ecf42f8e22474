package eval

import (
	"caulker/api"
	"caulker/heap"
)

// How it goes on behind a statement.
const (
	next   = iota // with what comes next
	behind        // behind the loop around it
	again         // with the condition of the loop around it
	back          // behind the call
)

// statement runs one: how it goes on behind it.
func (r *runner) statement(node int) int {
	r.begin()
	n := &r.pieces[node]
	switch n.Kind {
	case api.Block:
		return r.block(n.Kids)
	case api.If:
		return r.branch(n.Kids)
	case api.While:
		return r.loop(n.Kids)
	case api.Break:
		return behind
	case api.Continue:
		return again
	case api.Return:
		if len(n.Kids) > 0 {
			r.answer = r.value(n.Kids[0])
		}
		return back
	}
	r.act(n)
	return next
}

// act runs a statement behind which the next one comes.
func (r *runner) act(n *piece) {
	switch n.Kind {
	case api.Decl:
		v := heap.Empty(n.Type)
		if len(n.Kids) > 0 {
			v = r.value(n.Kids[0])
		}
		r.locals[n.slot] = v
	case api.Assign:
		r.assign(n.Kids[0], n.Kids[1])
	case api.Print:
		r.printOut(r.value(n.Kids[0]))
	case api.Super:
		r.super(r.values(n.Kids))
	case api.Expr:
		r.value(n.Kids[0])
	}
}

// block runs statements, one by one.
func (r *runner) block(list []int) int {
	for _, node := range list {
		if way := r.statement(node); way != next {
			return way
		}
	}
	return next
}

// branch runs a condition, and the block that it leads into, if there is one.
func (r *runner) branch(kids []int) int {
	if r.holds(kids[0]) {
		return r.statement(kids[1])
	}
	return r.block(kids[2:])
}

// loop runs a block as long as a condition holds.
func (r *runner) loop(kids []int) int {
	for r.holds(kids[0]) {
		switch r.statement(kids[1]) {
		case behind:
			return next
		case back:
			return back
		}
	}
	return next
}

// assign runs what is assigned to but for its last asking, and then the value: where an element isn't there, that is told behind all of it.
func (r *runner) assign(to, value int) {
	n := &r.pieces[to]
	if n.Kind == api.Var {
		v := r.value(value)
		r.locals[n.slot] = v
		return
	}
	r.begin()
	thing := r.thing(r.value(n.Kids[0]))
	number := r.number(n, thing)
	r.want(r.heap.Store(thing, number, r.value(value)))
}
