package num

import (
	"math"
	"strings"

	"caulker/api"
)

// The limits.
const (
	MaxDigits = 15                 // of a double's text
	NaN       = 0x7ff8000000000001 // the bits of the double that is no number
)

// beyond is the least double above all whole numbers: the greatest of them is no double.
const beyond = 1 << 63

// Float: the double of digits, a point, and digits, by its bits.
func Float(s string) (uint64, api.Errno) {
	ahead, behind, ok := strings.Cut(s, ".")
	if !ok || !whole(ahead) || !digits(behind) {
		return 0, api.ErrForm
	}
	if len(ahead)+len(behind) > MaxDigits {
		return 0, api.ErrLong
	}
	n, _ := value(ahead + behind)
	return bitsOf(float64(n) / tens(len(behind))), api.OK
}

// tens: ten so many times by itself. As no more than MaxDigits digits are read, this and all that they say are doubles without rounding, and their quotient alone is rounded: it is the nearest one.
func tens(times int) float64 {
	x := 1.0
	for range times {
		x *= 10
	}
	return x
}

// double: the double of some bits.
func double(bits uint64) float64 { return math.Float64frombits(bits) }

// bitsOf: a double's bits. The machine has many that are no number, and which one comes of what hangs on the machine.
func bitsOf(x float64) uint64 {
	if math.IsNaN(x) {
		return NaN
	}
	return math.Float64bits(x)
}

// Norm: a double's bits; of those that are no number always the same.
func Norm(bits uint64) uint64 { return bitsOf(double(bits)) }

// FloatOp: two doubles together, by a sign.
func FloatOp(sign string, a, b uint64) (uint64, api.Errno) {
	x, y := double(a), double(b)
	switch sign {
	case "+":
		return bitsOf(x + y), api.OK
	case "-":
		return bitsOf(x - y), api.OK
	case "*":
		return bitsOf(x * y), api.OK
	case "/":
		return bitsOf(x / y), api.OK
	}
	return 0, api.ErrMissing
}

// FloatNeg: a double with the other sign; what is no number stays. The sign is turned as the bit that it is, as 0 less a nought has no sign.
func FloatNeg(a uint64) uint64 { return Norm(a ^ 1<<63) }

// FloatCompare: does a sign hold of two doubles? What is no number is neither less than, nor the same as, nor more than anything.
func FloatCompare(sign string, a, b uint64) (bool, api.Errno) {
	return holds(sign, double(a), double(b))
}

// ToInt: the whole number of a double: what is behind the point is left out; what is too great is the greatest, what is too small the least, what is no number 0.
func ToInt(a uint64) int64 {
	x := double(a)
	switch {
	case math.IsNaN(x):
		return 0
	case x >= beyond:
		return math.MaxInt64
	case x < -beyond:
		return math.MinInt64
	}
	return int64(x)
}

// ToFloat: the double that is nearest to a whole number.
func ToFloat(a int64) uint64 { return bitsOf(float64(a)) }
