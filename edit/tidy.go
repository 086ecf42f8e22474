package edit

import (
	"strings"

	"caulker/api"
)

// Tidy: edits that do the same: none that changes nothing, none whose ends stay as they were, and none that begins where another one ends.
func Tidy(text string, list ...api.Edit) ([]api.Edit, api.Errno) {
	if wrong := fits(text, list); wrong != api.OK {
		return nil, wrong
	}
	return tidied(text, fresh(list)), api.OK
}

// fresh: edits cloned, and their texts: whatever is made of them then shares no memory with them.
func fresh(list []api.Edit) []api.Edit {
	all := make([]api.Edit, len(list))
	copy(all, list)
	for i := range all {
		all[i].Text = strings.Clone(all[i].Text)
	}
	return all
}

// tidied: a list tidied in its own place. Those at its beginning that are tidy are never more than those that were looked at, so none is lost.
func tidied(text string, list []api.Edit) []api.Edit {
	done := 0
	for _, e := range list {
		e = trimmed(text, e)
		if done > 0 && list[done-1].To == e.From {
			done--
			e = trimmed(text, joined(text, list[done], e))
		}
		if e.From == e.To && e.Text == "" {
			continue
		}
		list[done] = e
		done++
	}
	return list[:done]
}

// trimmed: an edit without what its span and its text have alike at their beginning, and then at their end.
func trimmed(text string, e api.Edit) api.Edit {
	for e.From < e.To && e.Text != "" && text[e.From] == e.Text[0] {
		e.From++
		e.Text = e.Text[1:]
	}
	for e.From < e.To && e.Text != "" && text[e.To-1] == e.Text[len(e.Text)-1] {
		e.To--
		e.Text = e.Text[:len(e.Text)-1]
	}
	return e
}

// joined: one edit that does what two do; the bytes between them are taken away and put in again.
func joined(text string, a, b api.Edit) api.Edit {
	return api.Edit{
		Span: api.Span{From: a.From, To: b.To},
		Text: a.Text + text[a.To:b.From] + b.Text,
	}
}
