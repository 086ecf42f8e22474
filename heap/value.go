package heap

import (
	"strings"

	"caulker/api"
)

// MaxText is how many bytes a text has at most that is made of two.
const MaxText = 1024

// The kinds of values, beside those of api's bases.
const (
	Nothing = 0            // of a call that answers nothing
	Ref     = api.Class    // an object or an array, by its number
	Null    = api.Null     // it refers to nothing
	None    = api.None     // an option that holds nothing
	Some    = api.None + 1 // an option that holds an object or an array
)

// Value is a value: its kind, its number (of a double its bits), its text.
type Value struct {
	Kind int
	N    int64
	S    string
}

// own: a value whose text is in memory of its own.
func (v Value) own() Value {
	v.S = strings.Clone(v.S)
	return v
}

// Int, Bool, Double, Str, At: values; At is an object or an array.
func Int(n int64) Value { return Value{Kind: api.Int, N: n} }

func Bool(b bool) Value {
	v := Value{Kind: api.Bool}
	if b {
		v.N = 1
	}
	return v
}

func Double(bits uint64) Value { return Value{Kind: api.Double, N: int64(bits)} }

func Str(s string) Value { return Value{Kind: api.Str, S: s}.own() }

func At(n int) Value { return Value{Kind: Ref, N: int64(n)} }

// Empty: the value that a type's fields and elements have at first.
func Empty(t api.Type) Value {
	switch {
	case strings.HasSuffix(t.Marks, string(api.Optional)):
		return Value{Kind: None}
	case t.Dims > 0 || t.Base == api.Class || t.Base == api.Null || t.Base == api.None:
		return Value{Kind: Null}
	case t.Base == api.NoType || t.Base == api.Void:
		return Value{}
	}
	return Value{Kind: t.Base}
}

// Wrap: the option that holds a value. Null stays, as there is nothing to hold.
func Wrap(v Value) Value {
	if v.Kind == Ref {
		return Value{Kind: Some, N: v.N}
	}
	return v.own()
}

// Open: what an option holds; null, if it holds nothing.
func Open(v Value) Value {
	switch v.Kind {
	case Some:
		return Value{Kind: Ref, N: v.N}
	case None:
		return Value{Kind: Null}
	}
	return v.own()
}

// Same: are two values the same in all? So a double that is no number is the same as itself: who reckons with doubles doesn't ask here.
func Same(a, b Value) bool { return a == b }

// Join: two texts as one.
func Join(a, b string) (string, api.Errno) {
	if len(a) > MaxText || len(b) > MaxText-len(a) {
		return "", api.ErrLong
	}
	return strings.Clone(a + b), api.OK // of an empty text and another one Go's + answers that itself
}
