package tree

import (
	"strconv"
	"strings"

	"caulker/api"
)

// Form: a node as a text in brackets: what it is, without where it stands.
func Form(t api.Tree, at int) string {
	if at < 0 || at >= len(t.Nodes) || Check(t) != api.OK {
		return ""
	}
	var out strings.Builder
	form(&out, t.Nodes, at)
	return out.String()
}

// form: writes a node's form.
func form(out *strings.Builder, nodes []api.Node, at int) {
	n := nodes[at]
	s := shapes[n.Kind]
	out.WriteString("(" + s.name)
	if s.text {
		out.WriteString(" " + strconv.Quote(n.Text))
	}
	if s.typ {
		out.WriteString(" " + TypeText(n.Type))
	}
	if n.Kind == api.IntLit || n.Kind == api.BoolLit {
		out.WriteString(" " + strconv.FormatInt(n.N, 10))
	}
	for _, kid := range n.Kids {
		out.WriteByte(' ')
		form(out, nodes, kid)
	}
	out.WriteByte(')')
}

// Same: are two programs the same, but for where things stand?
func Same(a, b api.Tree) bool {
	form := Form(a, a.Root)
	return form != "" && form == Form(b, b.Root)
}
