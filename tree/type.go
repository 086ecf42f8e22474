package tree

import (
	"strings"

	"caulker/api"
)

// right: may a type be?
func right(t api.Type) bool {
	switch {
	case t.Base < api.Int || t.Base > api.Void:
		return false
	case (t.Name != "") != (t.Base == api.Class):
		return false
	case t.Dims < 0 || t.Dims > MaxDims || t.Dims > 0 && t.Base == api.Void:
		return false
	}
	return rightMarks(t)
}

// rightMarks: has a type a mark for each layer, and are they ones that these layers may have?
func rightMarks(t api.Type) bool {
	if len(t.Marks) != t.Dims+1 {
		return false
	}
	if t.Base != api.Class && t.Marks[0] != api.Plain {
		return false
	}
	within := strings.Trim(t.Marks[:t.Dims], " ?")
	last := t.Marks[t.Dims]
	return within == "" && (last == api.Plain || last == api.Nullable || last == api.Optional)
}

// Plain: has a type no marks but blanks?
func Plain(t api.Type) bool { return strings.Trim(t.Marks, " ") == "" }

// base: how a type's base is written.
func base(t api.Type) string {
	switch t.Base {
	case api.Int:
		return "int"
	case api.Bool:
		return "bool"
	case api.Double:
		return "double"
	case api.Str:
		return "str"
	case api.Void:
		return "void"
	}
	return strings.Clone(t.Name)
}

// TypeText: a type as it is written.
func TypeText(t api.Type) string {
	if !right(t) {
		return ""
	}
	text := base(t)
	for i := range len(t.Marks) {
		if i > 0 {
			text += "[]"
		}
		switch t.Marks[i] {
		case api.Nullable:
			text += "?"
		case api.Optional:
			text = "Option<" + text + ">"
		}
	}
	return text
}
