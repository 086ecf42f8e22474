package num

import (
	"math"
	"math/big"
	"regexp"
	"strings"
	"testing"

	"caulker/api"
)

// ints are numbers around each bound, and those whose sums and products go round.
var ints = []int64{
	math.MinInt64, math.MinInt64 + 1, math.MinInt64 + 2, -1 << 62, -1<<53 - 1, -1 << 53, -1 << 32, -3037000500, -3037000499, -10, -7, -3, -2, -1,
	0, 1, 2, 3, 7, 10, 3037000499, 3037000500, 1 << 32, 1<<53 - 1, 1 << 53, 1<<53 + 1, 1<<53 + 2, 1<<53 + 3, 1 << 62, math.MaxInt64 - 512, math.MaxInt64 - 511, math.MaxInt64 - 1, math.MaxInt64,
}

// notSigns are no signs of reckoning nor of comparing.
var notSigns = []string{"", " ", "+ ", " +", "++", "=", "!", "<>", "=<", "=>", "===", "&&", "||", "**", "//", "^", "&", "<<", "plus", "\x00", "+\x00", "\xff"}

// around makes one of a number, going round: from -2^63 to 2^63 - 1.
func around(n *big.Int) int64 {
	m := new(big.Int).And(n, new(big.Int).SetUint64(math.MaxUint64))
	return int64(m.Uint64())
}

// texts are all texts of at most so many bytes of some.
func texts(bytes string, most int) []string {
	all := []string{""}
	for from := 0; most > 0; most-- {
		to := len(all)
		for _, s := range all[from:to] {
			for i := range len(bytes) {
				all = append(all, s+bytes[i:i+1])
			}
		}
		from = to
	}
	return all
}

var wholeForm = regexp.MustCompile(`^(0|[1-9][0-9]*)$`)

// P5.1, of all short texts
func TestIntForms(t *testing.T) {
	for _, s := range texts("019./:-+ _xe\n", 4) {
		want, wantE := int64(0), api.ErrForm
		if wholeForm.MatchString(s) {
			b, _ := new(big.Int).SetString(s, 10)
			want, wantE = b.Int64(), api.OK
		}
		if n, e := Int(s); n != want || e != wantE {
			t.Fatalf("Int %q: %d %d, not %d %d", s, n, e, want, wantE)
		}
	}
}

// P5.1 at its bound, and of long and wrong texts
func TestIntWords(t *testing.T) {
	for _, x := range []struct {
		s     string
		want  int64
		wantE api.Errno
	}{
		{"9223372036854775799", 9223372036854775799, api.OK},
		{"9223372036854775806", math.MaxInt64 - 1, api.OK},
		{"9223372036854775807", math.MaxInt64, api.OK},
		{"9223372036854775808", 0, api.ErrRange},
		{"9223372036854775809", 0, api.ErrRange},
		{"9223372036854775810", 0, api.ErrRange},
		{"9999999999999999999", 0, api.ErrRange},
		{"18446744073709551615", 0, api.ErrRange},
		{"18446744073709551616", 0, api.ErrRange},
		{"18446744073709551617", 0, api.ErrRange},
		{"1" + strings.Repeat("0", 100000), 0, api.ErrRange},
		{"09223372036854775808", 0, api.ErrForm},
		{strings.Repeat("0", 30), 0, api.ErrForm},
		{strings.Repeat("9", 30) + "x", 0, api.ErrForm},
		{"100200300400500", 100200300400500, api.OK},
		{"\xd9\xa3", 0, api.ErrForm},
		{"1\x00", 0, api.ErrForm},
		{"\xff", 0, api.ErrForm},
		{"-1", 0, api.ErrForm},
		{"0x1", 0, api.ErrForm},
	} {
		if n, e := Int(x.s); n != x.want || e != x.wantE {
			t.Errorf("Int %.40q: %d %d, not %d %d", x.s, n, e, x.want, x.wantE)
		}
	}
}

// opOf is what the document says of Op, by numbers without bounds.
func opOf(sign string, a, b int64) (int64, api.Errno) {
	x, y, z := big.NewInt(a), big.NewInt(b), new(big.Int)
	switch sign {
	case "+":
		return around(z.Add(x, y)), api.OK
	case "-":
		return around(z.Sub(x, y)), api.OK
	case "*":
		return around(z.Mul(x, y)), api.OK
	}
	if b == 0 {
		return 0, api.ErrRange
	}
	if sign == "/" {
		return around(z.Quo(x, y)), api.OK
	}
	return around(z.Rem(x, y)), api.OK
}

// P5.3, of all pairs
func TestOp(t *testing.T) {
	for _, sign := range []string{"+", "-", "*", "/", "%"} {
		for _, a := range ints {
			for _, b := range ints {
				want, wantE := opOf(sign, a, b)
				if n, e := Op(sign, a, b); n != want || e != wantE {
					t.Errorf("Op %d %s %d: %d %d, not %d %d", a, sign, b, n, e, want, wantE)
				}
			}
		}
	}
}

// P5.3, written out
func TestOpWords(t *testing.T) {
	for _, x := range []struct {
		sign       string
		a, b, want int64
		wantE      api.Errno
	}{
		{"+", math.MaxInt64, 1, math.MinInt64, api.OK},
		{"-", math.MinInt64, 1, math.MaxInt64, api.OK},
		{"*", 1 << 62, 4, 0, api.OK},
		{"*", math.MinInt64, -1, math.MinInt64, api.OK},
		{"/", math.MinInt64, -1, math.MinInt64, api.OK},
		{"%", math.MinInt64, -1, 0, api.OK},
		{"/", -7, 2, -3, api.OK},
		{"/", 7, -2, -3, api.OK},
		{"%", -7, 3, -1, api.OK},
		{"%", 7, -3, 1, api.OK},
		{"%", -7, -3, -1, api.OK},
		{"/", 0, 0, 0, api.ErrRange},
		{"%", 5, 0, 0, api.ErrRange},
	} {
		if n, e := Op(x.sign, x.a, x.b); n != x.want || e != x.wantE {
			t.Errorf("Op %d %s %d: %d %d", x.a, x.sign, x.b, n, e)
		}
	}
}

// P5.3: other signs aren't there, whatever b is.
func TestOpSigns(t *testing.T) {
	for _, sign := range append([]string{"==", "!=", "<", "<=", ">", ">="}, notSigns...) {
		for _, b := range []int64{0, 1} {
			if n, e := Op(sign, 6, b); n != 0 || e != api.ErrMissing {
				t.Errorf("Op %q: %d %d", sign, n, e)
			}
		}
	}
}

// P5.3
func TestNeg(t *testing.T) {
	for _, a := range ints {
		if want := around(new(big.Int).Neg(big.NewInt(a))); Neg(a) != want {
			t.Errorf("Neg %d: %d, not %d", a, Neg(a), want)
		}
	}
	if Neg(math.MinInt64) != math.MinInt64 || Neg(math.MaxInt64) != math.MinInt64+1 {
		t.Error("Neg at its bounds")
	}
}

// asked is which signs hold, if that is how two numbers stand to one another.
func asked(order int) map[string]bool {
	return map[string]bool{"==": order == 0, "!=": order != 0, "<": order < 0, "<=": order <= 0, ">": order > 0, ">=": order >= 0}
}

// P5.4
func TestCompare(t *testing.T) {
	for _, a := range ints {
		for _, b := range ints {
			for sign, want := range asked(big.NewInt(a).Cmp(big.NewInt(b))) {
				if is, e := Compare(sign, a, b); is != want || e != api.OK {
					t.Errorf("Compare %d %s %d: %t %d", a, sign, b, is, e)
				}
			}
		}
	}
}

// P5.4: other signs aren't there.
func TestCompareSigns(t *testing.T) {
	for _, sign := range append([]string{"+", "-", "*", "/", "%"}, notSigns...) {
		if is, e := Compare(sign, 1, 1); is || e != api.ErrMissing {
			t.Errorf("Compare %q: %t %d", sign, is, e)
		}
		if is, e := FloatCompare(sign, NaN, 0); is || e != api.ErrMissing {
			t.Errorf("FloatCompare %q: %t %d", sign, is, e)
		}
	}
}
