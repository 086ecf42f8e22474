package kind

import (
	"strings"

	"caulker/api"
)

// model is what the document says of types, told by how they are written.
type model struct {
	texts map[api.Type]string
	types map[string]api.Type
	wrong []api.Type // ones that may not be
}

// put adds a type that may be.
func (m *model) put(t api.Type, text string) {
	m.texts[t] = text
	m.types[text] = t
}

// newModel has all types whose name, if they have one, is A or B, and many wrong ones.
func newModel() *model {
	m := &model{texts: map[api.Type]string{}, types: map[string]api.Type{}}
	m.put(api.Type{Base: api.Void, Marks: " "}, "void")
	for base, name := range []string{"", "int", "bool", "double", "str"} {
		if base > 0 {
			m.grow(api.Type{Base: base, Marks: " "}, name)
		}
	}
	m.grow(api.Type{Base: api.Class, Name: "A", Marks: " "}, "A")
	m.grow(api.Type{Base: api.Class, Name: "B", Marks: " "}, "B")
	m.wrongs()
	return m
}

// grow adds a type whose last layer has no mark, with each mark, and with arrays around it.
func (m *model) grow(t api.Type, text string) {
	m.put(t, text)
	last := len(t.Marks) - 1
	within := []string{text}
	if t.Base == api.Class || last > 0 {
		m.put(api.Type{Base: t.Base, Name: t.Name, Dims: t.Dims, Marks: t.Marks[:last] + "?"}, text+"?")
		m.put(api.Type{Base: t.Base, Name: t.Name, Dims: t.Dims, Marks: t.Marks[:last] + "o"}, "Option<"+text+">")
		within = append(within, text+"?")
	}
	if t.Dims == 4 {
		return
	}
	for _, in := range within {
		array := m.types[in]
		array.Dims++
		array.Marks += " "
		m.grow(array, in+"[]")
	}
}

// wrongs finds wrong types: whatever isn't one of the right ones, nor of null or none.
func (m *model) wrongs() {
	list := []api.Type{{}, {Base: api.Class, Name: "A", Dims: 1 << 62, Marks: " "}, {Base: api.Int, Dims: -1 << 63, Marks: " "}, {Base: 1 << 62, Marks: " "}, {Base: -1, Name: "A", Marks: "?"}}
	for base := -1; base < 12; base++ {
		for dims := -2; dims < 7; dims++ {
			for _, marks := range []string{"", " ", "?", "o", "x", "\xff", "  ", "??", "oo", "o ", " o", "?o", "     ", "    o", "?????", "o    ", "      ", "     o", "       "} {
				for _, name := range []string{"", "A"} {
					list = append(list, api.Type{Base: base, Name: name, Dims: dims, Marks: marks})
				}
			}
		}
	}
	for _, t := range list {
		null := t == api.Type{Base: 7, Marks: "?"} || t == api.Type{Base: 8, Marks: "o"}
		if _, right := m.texts[t]; !right && !null {
			m.wrong = append(m.wrong, t)
		}
	}
}

// bare is a text without marks.
func bare(text string) string {
	return strings.NewReplacer("?", "", "Option<", "", ">", "").Replace(text)
}

// unmarked is a text without its last mark.
func unmarked(text string) string {
	if in, ok := strings.CutPrefix(text, "Option<"); ok {
		return strings.TrimSuffix(in, ">")
	}
	return strings.TrimSuffix(text, "?")
}

// refers: are its values ones that may refer to something?
func refers(text string) bool {
	return strings.Contains(text, "[]") || bare(text) == "A" || bare(text) == "B"
}

// fewer are the marks, any of which are blanks in their place.
func fewer(marks string) []string {
	if marks == "" {
		return []string{""}
	}
	var list []string
	for _, rest := range fewer(marks[1:]) {
		list = append(list, marks[:1]+rest, " "+rest)
	}
	return list
}
