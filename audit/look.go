package audit

import (
	"caulker/api"
	"caulker/base"
	"caulker/edit"
	"caulker/migrate"
	"caulker/strict"
	"caulker/tree"
)

// answer is what a text was answered in a mode, and with what both programs are to be run.
type answer struct {
	text  string
	mode  migrate.Mode
	out   migrate.Output
	fault api.Fault
	in    []int64
	fuel  int
}

// found: what is found of an answer.
func (a answer) found() int {
	x, f := strict.Fits(a.text)
	switch {
	case f.Code != api.OK:
		return unless(a.fault == f, Other)
	case a.fault.Code != api.OK:
		return unless(a.mayRefuse(x), Refused)
	}
	return a.looked(x)
}

// unless: what is found, unless all is fine.
func unless(fine bool, found int) int {
	if fine {
		return Fine
	}
	return found
}

// mayRefuse: may a program that fits be refused so?
func (a answer) mayRefuse(x *base.Info) bool {
	switch a.fault.Code {
	case api.ErrLong:
		return true
	case api.ErrMark:
		_, marked := tree.Marked(x.Tree())
		return marked
	case api.ErrGuard:
		return !a.mode.Guards
	}
	return false
}

// looked: what is found of what was made of a program.
func (a answer) looked(x *base.Info) int {
	y, f := strict.Program(a.out.Text)
	if f.Code != api.OK {
		return Wrong
	}
	if made, e := edit.Apply(a.text, a.out.Edits...); e != api.OK || made != a.out.Text {
		return Moved
	}
	switch {
	case a.out.Checks == 0 && !alike(x, y):
		return Other
	case a.out.Options == 0 && a.out.Checks == 0 && !Minimal(a.text, a.out.Edits...):
		return Idle
	case len(a.out.Trace) != a.out.Marks+a.out.Guards:
		return Untold
	}
	return unless(Runs(x, y, a.in, a.fuel), Parted)
}

// alike: are two programs the same, without marks, guards and options?
func alike(x, y *base.Info) bool {
	return tree.Same(tree.Erase(x.Tree()), tree.Erase(y.Tree()))
}
