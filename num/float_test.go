package num

import (
	"math"
	"math/big"
	"regexp"
	"strconv"
	"strings"
	"testing"

	"caulker/api"
)

const (
	nought = uint64(0)
	minus  = uint64(1) << 63
	inf    = uint64(0x7ff0000000000000)
)

// plus are doubles that are 0 or above it: around each bound, and those whose sums, products and quotients lie between two.
var plus = []uint64{
	nought, 1, 2, 3, 1<<51 + 1, 1<<52 - 1, 1 << 52, 1<<52 + 1, 0x1ff0000000000001, 0x2000000000000000,
	math.Float64bits(1e-300), math.Float64bits(0.1), math.Float64bits(0.25), math.Float64bits(0.3), 0x3fefffffffffffff,
	math.Float64bits(1), 0x3ff0000000000001, math.Float64bits(1.5), math.Float64bits(2.9), math.Float64bits(3), math.Float64bits(10),
	math.Float64bits(1<<53 - 1), math.Float64bits(1 << 53), math.Float64bits(1<<53 + 2), math.Float64bits(1 << 62), 0x43dfffffffffffff, math.Float64bits(1 << 63), 0x43e0000000000001,
	math.Float64bits(1e300), 0x7fe0000000000000, inf - 1, inf,
}

// none are bits that are no number.
var none = []uint64{NaN, NaN | minus, inf + 1, minus | inf + 1, 0x7ff8000000000000, 0xfff8000000000000, 0x7fffffffffffffff, math.MaxUint64}

// every are doubles of both signs, and those that are no number.
func every() []uint64 {
	all := append([]uint64{}, none...)
	for _, x := range plus {
		all = append(all, x, x|minus)
	}
	return all
}

// isNone, isInf, isNought tell doubles by their bits.
func isNone(a uint64) bool   { return a&^minus > inf }
func isInf(a uint64) bool    { return a&^minus == inf }
func isNought(a uint64) bool { return a&^minus == 0 }

// ratio is a double that is neither infinite nor none, exactly.
func ratio(a uint64) *big.Rat { return new(big.Rat).SetFloat64(math.Float64frombits(a)) }

// nearest is the double that is nearest to a number other than 0, by its bits.
func nearest(r *big.Rat) uint64 {
	x, _ := r.Float64()
	a := math.Float64bits(x)
	if r.Sign() < 0 {
		a |= minus
	}
	return a
}

// sumOf is a + b as IEEE 754 says.
func sumOf(a, b uint64) uint64 {
	switch {
	case isNone(a), isNone(b), isInf(a) && isInf(b) && a != b:
		return NaN
	case isInf(a):
		return a
	case isInf(b):
		return b
	case isNought(a) && isNought(b):
		return a & b
	}
	r := new(big.Rat).Add(ratio(a), ratio(b))
	if r.Sign() == 0 {
		return nought
	}
	return nearest(r)
}

// timesOf is a * b as IEEE 754 says.
func timesOf(a, b uint64) uint64 {
	sign := (a ^ b) & minus
	switch {
	case isNone(a), isNone(b), isInf(a) && isNought(b), isNought(a) && isInf(b):
		return NaN
	case isInf(a), isInf(b):
		return inf | sign
	case isNought(a), isNought(b):
		return sign
	}
	return nearest(new(big.Rat).Mul(ratio(a), ratio(b)))
}

// partOf is a / b as IEEE 754 says.
func partOf(a, b uint64) uint64 {
	sign := (a ^ b) & minus
	switch {
	case isNone(a), isNone(b), isInf(a) && isInf(b), isNought(a) && isNought(b):
		return NaN
	case isInf(a), isNought(b):
		return inf | sign
	case isInf(b), isNought(a):
		return sign
	}
	return nearest(new(big.Rat).Quo(ratio(a), ratio(b)))
}

// P5.6, of all pairs; rule 2: what is no number is always NaN.
func TestFloatOp(t *testing.T) {
	for _, a := range every() {
		for _, b := range every() {
			for _, x := range []struct {
				sign string
				want uint64
			}{{"+", sumOf(a, b)}, {"-", sumOf(a, b^minus)}, {"*", timesOf(a, b)}, {"/", partOf(a, b)}} {
				if got, e := FloatOp(x.sign, a, b); got != x.want || e != api.OK {
					t.Errorf("FloatOp %x %s %x: %x %d, not %x", a, x.sign, b, got, e, x.want)
				}
			}
		}
	}
}

// P5.6, of the chapter's example and of doubles written out
func TestFloatOpWords(t *testing.T) {
	bits := math.Float64bits
	for _, x := range []struct {
		sign       string
		a, b, want uint64
	}{
		{"/", bits(-1), nought, 0xfff0000000000000},
		{"/", bits(-1), minus, inf},
		{"-", nought, nought, nought},
		{"-", minus, nought, minus},
		{"+", minus, minus, minus},
		{"+", bits(0.1), bits(0.2), 0x3fd3333333333334},
		{"+", bits(1 << 53), bits(1), bits(1 << 53)},
		{"+", bits(1<<53 + 2), bits(1), bits(1<<53 + 4)},
		{"*", inf - 1, bits(2), inf},
		{"*", 1, bits(0.5), nought},
		{"*", 3, bits(0.5), 2},
		{"/", minus | 1, bits(2), minus},
		{"/", minus | inf, inf, NaN},
	} {
		if got, e := FloatOp(x.sign, x.a, x.b); got != x.want || e != api.OK {
			t.Errorf("FloatOp %x %s %x: %x %d", x.a, x.sign, x.b, got, e)
		}
	}
	for _, sign := range append([]string{"%", "==", "!=", "<", "<=", ">", ">="}, notSigns...) {
		if got, e := FloatOp(sign, bits(1), NaN); got != 0 || e != api.ErrMissing {
			t.Errorf("FloatOp %q: %x %d", sign, got, e)
		}
	}
}

// P5.6
func TestFloatNeg(t *testing.T) {
	for _, a := range every() {
		want := a ^ minus
		if isNone(a) {
			want = NaN
		}
		if FloatNeg(a) != want {
			t.Errorf("FloatNeg %x: %x", a, FloatNeg(a))
		}
	}
}

// P5.5
func TestNorm(t *testing.T) {
	for _, a := range every() {
		want := a
		if isNone(a) {
			want = NaN
		}
		if Norm(a) != want {
			t.Errorf("Norm %x: %x", a, Norm(a))
		}
	}
}

// standing is how two doubles that are numbers stand to one another: by their bits, as those of one sign rise with what they say.
func standing(a, b uint64) int {
	key := func(a uint64) int64 {
		if a >= minus {
			return -int64(a ^ minus)
		}
		return int64(a)
	}
	return big.NewInt(key(a)).Cmp(big.NewInt(key(b)))
}

// P5.4
func TestFloatCompare(t *testing.T) {
	for _, a := range every() {
		for _, b := range every() {
			wants := asked(standing(a, b))
			if isNone(a) || isNone(b) {
				wants = map[string]bool{"==": false, "!=": true, "<": false, "<=": false, ">": false, ">=": false}
			}
			for sign, want := range wants {
				if is, e := FloatCompare(sign, a, b); is != want || e != api.OK {
					t.Errorf("FloatCompare %x %s %x: %t %d", a, sign, b, is, e)
				}
			}
		}
	}
	if is, e := FloatCompare("==", nought, minus); !is || e != api.OK {
		t.Error("both noughts")
	}
	if is, e := FloatCompare("<", NaN, NaN); is || e != api.OK {
		t.Error("what is no number, and itself")
	}
}

// intOf is what the document says of ToInt, by numbers without bounds.
func intOf(a uint64) int64 {
	switch {
	case isNone(a):
		return 0
	case a == inf:
		return math.MaxInt64
	case isInf(a):
		return math.MinInt64
	}
	r := ratio(a)
	n := new(big.Int).Quo(r.Num(), r.Denom())
	if !n.IsInt64() {
		return intOf(inf | a&minus)
	}
	return n.Int64()
}

// P5.5
func TestToInt(t *testing.T) {
	for _, a := range every() {
		if ToInt(a) != intOf(a) {
			t.Errorf("ToInt %x: %d, not %d", a, ToInt(a), intOf(a))
		}
	}
	for x, want := range map[float64]int64{2.9: 2, -2.9: -2, 0.999: 0, -0.999: 0, 1 << 62: 1 << 62, -1 << 63: math.MinInt64, 1 << 63: math.MaxInt64, 1e300: math.MaxInt64, -1e300: math.MinInt64} {
		if n := ToInt(math.Float64bits(x)); n != want {
			t.Errorf("ToInt %g: %d, not %d", x, n, want)
		}
	}
}

// P5.5
func TestToFloat(t *testing.T) {
	for _, a := range ints {
		want := nought
		if a != 0 {
			want = nearest(new(big.Rat).SetInt64(a))
		}
		if ToFloat(a) != want {
			t.Errorf("ToFloat %d: %x, not %x", a, ToFloat(a), want)
		}
	}
	for a, want := range map[int64]float64{1<<53 + 1: 1 << 53, 1<<53 + 3: 1<<53 + 4, -1<<53 - 1: -1 << 53, math.MaxInt64: 1 << 63, math.MinInt64: -1 << 63} {
		if ToFloat(a) != math.Float64bits(want) {
			t.Errorf("ToFloat %d: %x", a, ToFloat(a))
		}
	}
}

var floatForm = regexp.MustCompile(`^(0|[1-9][0-9]*)\.[0-9]+$`)

// floatOf is what the document says of Float.
func floatOf(s string) (uint64, api.Errno) {
	if !floatForm.MatchString(s) {
		return 0, api.ErrForm
	}
	if len(s)-1 > 15 {
		return 0, api.ErrLong
	}
	x, _ := strconv.ParseFloat(s, 64)
	return math.Float64bits(x), api.OK
}

// heldFloat holds Float to the document.
func heldFloat(t *testing.T, s string) {
	t.Helper()
	want, wantE := floatOf(s)
	if a, e := Float(s); a != want || e != wantE {
		t.Fatalf("Float %.40q: %x %d, not %x %d", s, a, e, want, wantE)
	}
}

// P5.2, of all short texts
func TestFloatForms(t *testing.T) {
	for _, s := range texts("0159.-+ _e,\n", 4) {
		heldFloat(t, s)
	}
}

// P5.2, of many digits, with the point wherever it may be
func TestFloatDigits(t *testing.T) {
	var next uint64 = 5
	roll := func() string {
		next = next*6364136223846793005 + 1442695040888963407
		return strconv.FormatUint(next>>3, 10)
	}
	for range 3000 {
		digits := (roll() + roll())[:18]
		for size := 2; size <= 18; size++ {
			for at := 1; at < size; at++ {
				heldFloat(t, digits[:at]+"."+digits[at:size])
			}
			heldFloat(t, "0."+digits[:size-1])
			heldFloat(t, "0.000"+digits[:size-1])
		}
	}
}

// P5.2, written out: the bound, what is told first, and wrong texts
func TestFloatWords(t *testing.T) {
	for _, x := range []struct {
		s     string
		want  uint64
		wantE api.Errno
	}{
		{"0.25", 0x3fd0000000000000, api.OK},
		{"0.1", 0x3fb999999999999a, api.OK},
		{"0.0", 0, api.OK},
		{"10.01", 0x4024051eb851eb85, api.OK},
		{"99999999999999.9", math.Float64bits(99999999999999.9), api.OK},
		{"0.00000000000001", math.Float64bits(1e-14), api.OK},
		{"9.00719925474099", math.Float64bits(9.00719925474099), api.OK},
		{"0.000000000000001", 0, api.ErrLong},
		{"999999999999999.9", 0, api.ErrLong},
		{"1." + strings.Repeat("0", 100000), 0, api.ErrLong},
		{"01." + strings.Repeat("0", 100), 0, api.ErrForm},
		{"1." + strings.Repeat("0", 100) + "x", 0, api.ErrForm},
		{"00.5", 0, api.ErrForm},
		{"1.5.2", 0, api.ErrForm},
		{"1.", 0, api.ErrForm},
		{".5", 0, api.ErrForm},
		{".", 0, api.ErrForm},
		{"", 0, api.ErrForm},
		{"15", 0, api.ErrForm},
		{"-1.5", 0, api.ErrForm},
		{"1.5e3", 0, api.ErrForm},
		{"Inf", 0, api.ErrForm},
		{"NaN", 0, api.ErrForm},
		{"0x1.8", 0, api.ErrForm},
		{"1.\xd9\xa3", 0, api.ErrForm},
	} {
		if a, e := Float(x.s); a != x.want || e != x.wantE {
			t.Errorf("Float %.40q: %x %d, not %x %d", x.s, a, e, x.want, x.wantE)
		}
	}
}
