package eval

import (
	"caulker/api"
	"caulker/heap"
	"caulker/num"
)

// turned: what is reckoned of one number or truth.
func turned(n *piece, v heap.Value) heap.Value {
	switch {
	case n.Kind == api.Not:
		return heap.Bool(v.N == 0)
	case n.Kind == api.ToInt:
		return heap.Int(num.ToInt(uint64(v.N)))
	case n.Kind == api.ToDouble:
		return heap.Double(num.ToFloat(v.N))
	case n.base == api.Double:
		return heap.Double(num.FloatNeg(uint64(v.N)))
	}
	return heap.Int(num.Neg(v.N))
}

// binary: what a sign makes of two values; the second one is reckoned only if the first doesn't tell.
func (r *runner) binary(n *piece, a heap.Value) heap.Value {
	switch n.Text {
	case "&&":
		return heap.Bool(a.N != 0 && r.holds(n.Kids[1]))
	case "||":
		return heap.Bool(a.N != 0 || r.holds(n.Kids[1]))
	}
	v, e := signed(n, a, r.value(n.Kids[1]))
	r.want(e)
	return v
}

// signed: what a sign makes of two values that are there.
func signed(n *piece, a, b heap.Value) (heap.Value, api.Errno) {
	switch {
	case n.base == api.Int:
		return whole(n.Text, a.N, b.N)
	case n.base == api.Double:
		return double(n.Text, uint64(a.N), uint64(b.N))
	case n.Text == "==":
		return heap.Bool(heap.Same(a, b)), api.OK
	case n.Text == "!=":
		return heap.Bool(!heap.Same(a, b)), api.OK
	}
	s, e := heap.Join(a.S, b.S)
	return heap.Str(s), e
}

// whole: what a sign makes of two whole numbers.
func whole(sign string, a, b int64) (heap.Value, api.Errno) {
	if holds, e := num.Compare(sign, a, b); e == api.OK {
		return heap.Bool(holds), api.OK
	}
	n, e := num.Op(sign, a, b)
	return heap.Int(n), e
}

// double: what a sign makes of two doubles.
func double(sign string, a, b uint64) (heap.Value, api.Errno) {
	if holds, e := num.FloatCompare(sign, a, b); e == api.OK {
		return heap.Bool(holds), api.OK
	}
	bits, e := num.FloatOp(sign, a, b)
	return heap.Double(bits), e
}
