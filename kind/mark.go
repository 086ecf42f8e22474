package kind

import (
	"strings"

	"caulker/api"
)

// blanks: so many layers' marks, none of which says anything.
func blanks(n int) string { return strings.Repeat(string(api.Plain), n) }

// Outer: a type's last mark; a blank, if it may not be.
func Outer(t api.Type) byte {
	if !Right(t) {
		return api.Plain
	}
	return t.Marks[t.Dims]
}

// With: a type with another last mark.
func With(t api.Type, mark byte) (api.Type, api.Errno) {
	if !Ref(t) {
		return api.Type{}, api.ErrKind
	}
	return Mark(t, t.Dims, mark)
}

// Mark: a type with another mark at a layer.
func Mark(t api.Type, layer int, mark byte) (api.Type, api.Errno) {
	switch {
	case !may(t):
		return api.Type{}, api.ErrKind
	case layer < 0 || layer > t.Dims:
		return api.Type{}, api.ErrRange
	}
	t.Marks = t.Marks[:layer] + string([]byte{mark}) + t.Marks[layer+1:]
	return written(t, api.ErrMark)
}

// Bare: a type without marks.
func Bare(t api.Type) api.Type {
	if may(t) {
		t.Marks = blanks(t.Dims + 1)
	}
	return own(t)
}

// Layers: the layers of a type that may have marks, from the inside on.
func Layers(t api.Type) []int {
	if !may(t) {
		return nil
	}
	var list []int
	for layer := range t.Dims + 1 {
		if layer > 0 || t.Base == api.Class {
			list = append(list, layer)
		}
	}
	return list
}

// Alike: are two types the same but for their marks?
func Alike(a, b api.Type) bool {
	return Right(a) && Right(b) && Bare(a) == Bare(b)
}

// Inside: are two alike types the same but for their last marks?
func Inside(a, b api.Type) bool {
	return Alike(a, b) && a.Marks[:a.Dims] == b.Marks[:b.Dims]
}

// Less: has a type fewer marks than another one, that is else the same: each of its marks is that one's, or a blank?
func Less(a, b api.Type) bool {
	if !Alike(a, b) {
		return false
	}
	for layer := range a.Dims + 1 {
		if mark := a.Marks[layer]; mark != b.Marks[layer] && mark != api.Plain {
			return false
		}
	}
	return true
}
