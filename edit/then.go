package edit

import (
	"cmp"
	"slices"
	"strings"

	"caulker/api"
)

// Then: the edits that do to a text what some do, and then others.
func Then(text string, first, then []api.Edit) ([]api.Edit, api.Errno) {
	middle, wrong := Apply(text, first...)
	if wrong != api.OK {
		return nil, wrong
	}
	end, wrong := Apply(middle, then...)
	if wrong != api.OK {
		return nil, wrong
	}
	stay := through(kept(len(text), first), kept(len(middle), then))
	list := tidied(text, between(text, end, stay))
	if len(list) <= MaxEdits {
		return list, api.OK
	}
	list = tidied(text, joinNearest(text, list))
	if Cost(list...) > Cost(first...)+Cost(then...) {
		return nil, api.ErrLong
	}
	return list, api.OK
}

// run is bytes that edits leave: where they stood, where they stand behind the edits, and how many they are.
type run struct{ was, is, size int }

// kept: what edits leave of a text of so many bytes, in order.
func kept(n int, list []api.Edit) []run {
	var runs []run
	at, by := 0, 0
	for _, e := range withEnd(n, list) {
		if at < e.From {
			runs = append(runs, run{at, at + by, e.From - at})
		}
		at = e.To
		by += growth(e)
	}
	return runs
}

// through: what two lists of edits leave, the second one's made to what the first one's make.
func through(first, then []run) []run {
	var runs []run
	for len(first) > 0 && len(then) > 0 {
		a, b := first[0], then[0]
		from := max(a.is, b.was)
		to := min(a.is+a.size, b.was+b.size)
		if from < to {
			runs = append(runs, run{a.was + from - a.is, b.is + from - b.was, to - from})
		}
		if to == a.is+a.size {
			first = first[1:]
		} else {
			then = then[1:]
		}
	}
	return runs
}

// between: the edits that change all but what stays; some of them may change nothing.
func between(text, made string, stay []run) []api.Edit {
	var list []api.Edit
	was, is := 0, 0
	for _, r := range append(stay, run{len(text), len(made), 0}) {
		list = append(list, api.Edit{
			Span: api.Span{From: was, To: r.was},
			Text: strings.Clone(made[is:r.is]),
		})
		was, is = r.was+r.size, r.is+r.size
	}
	return list
}

// joinNearest: of more tidy edits than may be as many as may be. Those with the fewest bytes between them are joined, as these bytes are what it costs.
func joinNearest(text string, list []api.Edit) []api.Edit {
	gap := func(i int) int { return list[i].From - list[i-1].To }
	order := make([]int, 0, len(list))
	for i := range len(list) - 1 {
		order = append(order, i+1)
	}
	slices.SortFunc(order, func(i, j int) int {
		return cmp.Or(cmp.Compare(gap(i), gap(j)), cmp.Compare(i, j))
	})
	join := make([]bool, len(list))
	for _, i := range order[:len(list)-MaxEdits] {
		join[i] = true
	}
	var fewer []api.Edit
	for i, e := range list {
		if join[i] {
			last := len(fewer) - 1
			fewer[last] = joined(text, fewer[last], e)
		} else {
			fewer = append(fewer, e)
		}
	}
	return fewer
}
