package eval

import (
	"caulker/api"
	"caulker/heap"
)

// kin is what a run knows of a class: what its objects are made of, and how they begin.
type kin struct {
	fields  []api.Type
	numbers map[string]int // which of its fields each one is, by its name
	init    int            // the body of its init; -1: it has none
}

// message is a method of a class.
type message struct{ class, name string }

// kin finds out what is to be known of a class, when it is asked first. What is no class has neither fields nor an init.
func (r *runner) kin(class string) *kin {
	if k := r.kins[class]; k != nil {
		return k
	}
	k := &kin{numbers: map[string]int{}, init: -1}
	if class != "" {
		for i, f := range r.program.Table().Fields(class) {
			k.fields = append(k.fields, f.Type)
			k.numbers[f.Name] = i
		}
		k.init = r.initOf(class)
	}
	r.kins[class] = k
	return k
}

// initOf: the body of the init by which a class's objects begin; -1: it has none.
func (r *runner) initOf(class string) int {
	m, ok := r.program.Table().Init(class)
	if !ok {
		return -1
	}
	return r.bodyOf[m.Node]
}

// create: an object more, which has begun.
func (r *runner) create(class string, args []heap.Value) heap.Value {
	k := r.kin(class)
	v, e := r.heap.Object(class, k.fields...)
	r.want(e)
	if k.init >= 0 {
		r.call(k.init, v, args)
	}
	return v
}

// super begins the object of the call as the ancestor of its body's class does.
func (r *runner) super(args []heap.Value) {
	r.call(r.initOf(r.program.Table().Parent(r.owner)), r.this, args)
}

// send calls a method of an object: what that answers.
func (r *runner) send(to heap.Value, name string, args []heap.Value) heap.Value {
	class, _ := r.heap.Class(to)
	asked := message{class, name}
	body, ok := r.methods[asked]
	if !ok {
		m, has := r.program.Table().Method(class, name)
		if !has {
			r.want(api.ErrMissing)
		}
		body = r.bodyOf[m.Node]
		r.methods[asked] = body
	}
	return r.call(body, to, args)
}

// call runs a body, on an object, with its parameters' values: what it answers.
func (r *runner) call(body int, this heap.Value, args []heap.Value) heap.Value {
	if r.calls == MaxCalls {
		r.want(api.ErrDeep)
	}
	b := r.bodies[body]
	around := r.frame
	r.frame = frame{owner: b.Owner, this: this, locals: make([]heap.Value, b.Scope.Len())}
	copy(r.locals, args)
	r.calls++
	kids := r.pieces[b.Node].Kids
	r.statement(kids[len(kids)-1])
	r.calls--
	answer := r.answer
	r.frame = around
	return answer
}
