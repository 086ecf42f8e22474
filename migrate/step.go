package migrate

import (
	"caulker/api"
	"caulker/base"
	"caulker/dead"
	"caulker/diff"
	"caulker/edit"
	"caulker/option"
	"caulker/plan"
	"caulker/prune"
	"caulker/strict"
	"caulker/trace"
	"caulker/tree"
)

// The steps of a migration, in their order.
const (
	marking = iota
	wrapping
	removing
	telling
	checking
	steps // how many there are
)

// work is a migration that is under way.
type work struct {
	text    string
	program *base.Info // the text's, which something is wrong with
	mode    Mode
	marked  string // the text with marks and guards alone
	out     Output
}

// do does a step; what is wrong then.
func (w *work) do(step int) api.Fault {
	switch step {
	case marking:
		return w.mark()
	case wrapping:
		return w.remake(w.mode.Options, option.Wrap, &w.out.Options)
	case removing:
		return w.remake(w.mode.Dead, dead.Remove, &w.out.Checks)
	case telling:
		return w.tell()
	default:
		return w.check()
	}
}

// mark puts marks and guards in, as few as are needed, and tells why.
func (w *work) mark() api.Fault {
	p, f := plan.Make(w.text, w.mode.Guards, w.mode.Demands)
	if f.Code != api.OK {
		return f
	}
	list, _ := prune.Prune(w.text, p.Changes())
	for _, c := range list {
		if c.Kind == plan.Mark {
			w.out.Marks++
		} else {
			w.out.Guards++
		}
	}
	why, e := trace.Of(w.text, p, list)
	if e != api.OK {
		return api.Fault{Code: e}
	}
	w.out.Trace = why.Lines()
	w.out.Edits = plan.Edits(list)
	w.marked, e = edit.Apply(w.text, w.out.Edits...)
	w.out.Text = w.marked
	return api.Fault{Code: e}
}

// remake makes the text anew, if that may be done, and counts what was changed.
func (w *work) remake(may bool, anew func(string) (string, int, api.Fault), count *int) api.Fault {
	if !may {
		return api.Fault{}
	}
	made, n, f := anew(w.out.Text)
	if f.Code != api.OK {
		return lost(f.At)
	}
	w.out.Text, *count = made, n
	return api.Fault{}
}

// tell finds the edits anew, if they aren't those of marks and guards alone any more.
func (w *work) tell() api.Fault {
	if w.out.Text == w.marked {
		return api.Fault{}
	}
	list, _, e := diff.Bytes(w.text, w.out.Text)
	w.out.Edits = list
	return api.Fault{Code: e}
}

// check looks over what was made: is it right, is it the program that it was, and do the edits make it?
func (w *work) check() api.Fault {
	x, f := strict.Program(w.out.Text)
	if f.Code != api.OK {
		return lost(f.At)
	}
	if w.out.Checks == 0 && !tree.Same(tree.Erase(x.Tree()), tree.Erase(w.program.Tree())) {
		return lost(0)
	}
	if made, e := edit.Apply(w.text, w.out.Edits...); e != api.OK || made != w.out.Text {
		return lost(0)
	}
	return api.Fault{}
}

// lost: what was made isn't right, at that byte of it.
func lost(at int) api.Fault { return api.Fault{Code: api.ErrLost, At: at} }
