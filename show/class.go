package show

import "caulker/api"

// program writes all classes.
func (w *writer) program(n api.Node) {
	for i, class := range n.Kids {
		if i > 0 {
			w.WriteByte('\n')
		}
		w.class(class)
	}
}

// class writes a class, whose ancestor's name, if it has one, is the first of what it is made of.
func (w *writer) class(at int) {
	if !w.only(at, api.ClassOf) {
		return
	}
	n := w.nodes[at]
	members := n.Kids
	w.WriteString("class ")
	w.name(n.Text)
	if len(members) > 0 && w.nodes[members[0]].Kind == api.Ancestor {
		w.WriteString(" extends ")
		w.name(w.nodes[members[0]].Text)
		members = members[1:]
	}
	w.WriteString(" {")
	w.lines(members, w.member)
	w.WriteString("}\n")
}

// member writes a field, an init or a method.
func (w *writer) member(at int) {
	if !w.only(at, api.Field, api.Init, api.Method) {
		return
	}
	n := w.nodes[at]
	switch n.Kind {
	case api.Field:
		w.declared(n)
		w.WriteByte(';')
	case api.Init:
		w.WriteString("init")
		w.body(n)
	case api.Method:
		w.declared(n)
		w.body(n)
	}
}

// body writes the params and the block of a method or an init.
func (w *writer) body(n api.Node) {
	last := len(n.Kids) - 1
	w.list(n.Kids[:last], w.param)
	w.WriteByte(' ')
	w.block(n.Kids[last])
}

// param writes a param.
func (w *writer) param(at int) {
	if w.only(at, api.Param) {
		w.declared(w.nodes[at])
	}
}
