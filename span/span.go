// Package span is stretches of bytes: from one place on up to another one.
package span

import (
	"strings"

	"caulker/api"
)

// MaxText is how many bytes a text has at most.
const MaxText = 1 << 16

// mayBe: does a span lie within the longest text, and end no earlier than it begins?
func mayBe(s api.Span) bool {
	return 0 <= s.From && s.From <= s.To && s.To <= MaxText
}

// allMayBe: may each of some spans be?
func allMayBe(list []api.Span) bool {
	for _, s := range list {
		if !mayBe(s) {
			return false
		}
	}
	return true
}

// Of: a span that may be.
func Of(from, to int) (api.Span, api.Errno) {
	s := api.Span{From: from, To: to}
	if !mayBe(s) {
		return api.Span{}, api.ErrRange
	}
	return s, api.OK
}

// Check: may a span be, of a text of so many bytes?
func Check(s api.Span, n int) api.Errno {
	if !mayBe(s) || n < s.To || n > MaxText {
		return api.ErrRange
	}
	return api.OK
}

// Len: how many bytes a span has; none, if it may not be.
func Len(s api.Span) int {
	if !mayBe(s) {
		return 0
	}
	return s.To - s.From
}

// order: -1, 0 or 1. Places are not subtracted, as the difference of two far ones would wrap round.
func order(a, b int) int {
	switch {
	case a < b:
		return -1
	case a > b:
		return 1
	}
	return 0
}

// Compare: which of two begins first; of those that begin at one place the one that ends first.
func Compare(a, b api.Span) int {
	if c := order(a.From, b.From); c != 0 {
		return c
	}
	return order(a.To, b.To)
}

// Holds: is the span b within a?
func Holds(a, b api.Span) bool {
	return mayBe(a) && mayBe(b) && a.From <= b.From && b.To <= a.To
}

// Apart: does one end ahead of the other's beginning, or at it? Two empty ones at one place aren't apart: nothing tells which comes first.
func Apart(a, b api.Span) bool {
	return mayBe(a) && mayBe(b) && a != b && (a.To <= b.From || b.To <= a.From)
}

// Meet: the bytes that are in both; false: there are none.
func Meet(a, b api.Span) (api.Span, bool) {
	both := api.Span{From: max(a.From, b.From), To: min(a.To, b.To)}
	if !mayBe(a) || !mayBe(b) || both.From >= both.To {
		return api.Span{}, false
	}
	return both, true
}

// Cover: the least span that holds all; false: there is none.
func Cover(list ...api.Span) (api.Span, bool) {
	if len(list) == 0 || !allMayBe(list) {
		return api.Span{}, false
	}
	all := list[0]
	for _, s := range list[1:] {
		all.From = min(all.From, s.From)
		all.To = max(all.To, s.To)
	}
	return all, true
}

// Sum: how many bytes some spans have together; one that is in several counts for each.
func Sum(list ...api.Span) int {
	sum := 0
	for _, s := range list {
		sum += Len(s)
	}
	return sum
}

// Move: a span so many bytes on. How far is bounded ahead of the sum, which would wrap round else.
func Move(s api.Span, by int) (api.Span, api.Errno) {
	if !mayBe(s) || by < -MaxText || by > MaxText {
		return api.Span{}, api.ErrRange
	}
	return Of(s.From+by, s.To+by)
}

// Text: a text's bytes in a span, in memory of their own.
func Text(text string, s api.Span) (string, api.Errno) {
	if e := Check(s, len(text)); e != api.OK {
		return "", e
	}
	return strings.Clone(text[s.From:s.To]), api.OK
}

// Sorted: may each of some spans be, and do they stand in order, each apart from the next one?
func Sorted(list ...api.Span) bool {
	for i := range len(list) - 1 {
		if list[i].To > list[i+1].From || !Apart(list[i], list[i+1]) {
			return false
		}
	}
	return allMayBe(list)
}

// Gaps: what lies between some spans that stand in order, in a text of so many bytes; empty gaps aren't told.
func Gaps(n int, list ...api.Span) ([]api.Span, api.Errno) {
	if e := Check(api.Span{}, n); e != api.OK {
		return nil, e
	}
	for _, s := range list {
		if e := Check(s, n); e != api.OK {
			return nil, e
		}
	}
	if !Sorted(list...) {
		return nil, api.ErrOrder
	}
	return between(withEnd(n, list)), api.OK
}

// withEnd: some spans, and the text's end as an empty one: the list is cloned, as its spare room is the caller's.
func withEnd(n int, list []api.Span) []api.Span {
	all := make([]api.Span, len(list)+1)
	copy(all, list)
	all[len(list)] = api.Span{From: n, To: n}
	return all
}

// between: what lies ahead of each of some spans that stand in order.
func between(list []api.Span) []api.Span {
	var gaps []api.Span
	at := 0
	for _, s := range list {
		if at < s.From {
			gaps = append(gaps, api.Span{From: at, To: s.From})
		}
		at = s.To
	}
	return gaps
}
