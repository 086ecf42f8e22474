package heap

import (
	"math"
	"strings"
	"testing"
	"unsafe"

	"caulker/api"
)

// shared is whether two texts stand in the same memory.
func shared(a, b string) bool { return a != "" && unsafe.StringData(a) == unsafe.StringData(b) }

// P15.1: values of each kind.
func TestValues(t *testing.T) {
	for i, x := range []struct{ got, want Value }{
		{Int(0), Value{Kind: 1}}, {Int(-7), Value{1, -7, ""}}, {Int(math.MinInt64), Value{1, math.MinInt64, ""}}, {Int(math.MaxInt64), Value{1, math.MaxInt64, ""}},
		{Bool(true), Value{2, 1, ""}}, {Bool(false), Value{2, 0, ""}},
		{Double(0), Value{3, 0, ""}}, {Double(1), Value{3, 1, ""}}, {Double(1 << 63), Value{3, math.MinInt64, ""}}, {Double(math.MaxUint64), Value{3, -1, ""}}, {Double(0x7ff8000000000001), Value{3, 0x7ff8000000000001, ""}},
		{Str(""), Value{4, 0, ""}}, {Str("a\x00\xff"), Value{4, 0, "a\x00\xff"}}, {Str(strings.Repeat("x", 5000)), Value{4, 0, strings.Repeat("x", 5000)}},
		{At(0), Value{5, 0, ""}}, {At(4095), Value{5, 4095, ""}}, {At(-3), Value{5, -3, ""}}, {At(math.MaxInt), Value{5, math.MaxInt, ""}},
	} {
		if x.got != x.want {
			t.Errorf("%d: %v, not %v", i, x.got, x.want)
		}
	}
	if [5]int{Nothing, Ref, Null, None, Some} != [5]int{0, 5, 7, 8, 9} {
		t.Error("the kinds' numbers")
	}
}

// P15.1: what the fields and elements of a type are at first, of types that may be and others.
func TestEmpty(t *testing.T) {
	for _, x := range []struct {
		t    api.Type
		want Value
	}{
		{api.Type{Base: api.Int, Marks: " "}, Int(0)}, {api.Type{Base: api.Bool, Marks: " "}, Bool(false)}, {api.Type{Base: api.Double, Marks: " "}, Double(0)}, {api.Type{Base: api.Str, Marks: " "}, Str("")},
		{api.Type{Base: api.Class, Name: "A", Marks: " "}, Value{Kind: Null}}, {api.Type{Base: api.Class, Name: "A", Marks: "?"}, Value{Kind: Null}}, {api.Type{Base: api.Class, Name: "A", Marks: "o"}, Value{Kind: None}},
		{api.Type{Base: api.Void, Marks: " "}, Value{}}, {api.Type{}, Value{}}, {api.Type{Base: api.NoType, Name: "A", Marks: "?"}, Value{}},
		{api.Type{Base: api.Null, Marks: "?"}, Value{Kind: Null}}, {api.Type{Base: api.None, Marks: "o"}, Value{Kind: None}}, {api.Type{Base: api.None, Marks: " "}, Value{Kind: Null}}, {api.Type{Base: api.Null}, Value{Kind: Null}}, {api.Type{Base: api.Null, Marks: "o"}, Value{Kind: None}},
		{api.Type{Base: api.Int, Dims: 1, Marks: "  "}, Value{Kind: Null}}, {api.Type{Base: api.Int, Dims: 1, Marks: " ?"}, Value{Kind: Null}}, {api.Type{Base: api.Int, Dims: 1, Marks: " o"}, Value{Kind: None}}, {api.Type{Base: api.Str, Dims: 4, Marks: "     "}, Value{Kind: Null}},
		{api.Type{Base: api.Class, Name: "A", Dims: 2, Marks: "o  "}, Value{Kind: Null}}, {api.Type{Base: api.Class, Name: "A", Dims: 1, Marks: "o?"}, Value{Kind: Null}}, {api.Type{Base: api.Class, Name: "A", Dims: 1, Marks: "?o"}, Value{Kind: None}},
		{api.Type{Dims: 1, Marks: "  "}, Value{Kind: Null}}, {api.Type{Base: api.Void, Dims: 1}, Value{Kind: Null}}, {api.Type{Marks: "o"}, Value{Kind: None}}, {api.Type{Base: api.Void, Marks: "o"}, Value{Kind: None}}, {api.Type{Base: api.Int, Marks: "o"}, Value{Kind: None}}, {api.Type{Base: api.Int, Marks: "   xo"}, Value{Kind: None}},
		{api.Type{Base: api.Int}, Int(0)}, {api.Type{Base: api.Str, Name: "A", Marks: "o?"}, Str("")}, {api.Type{Base: api.Int, Dims: -1, Marks: " "}, Int(0)}, {api.Type{Base: api.Class, Dims: math.MinInt}, Value{Kind: Null}},
		{api.Type{Base: 9, Marks: " "}, Value{Kind: 9}}, {api.Type{Base: -4}, Value{Kind: -4}}, {api.Type{Base: math.MaxInt, Marks: "?"}, Value{Kind: math.MaxInt}}, {api.Type{Base: 77, Marks: "o"}, Value{Kind: None}}, {api.Type{Base: 77, Dims: 1}, Value{Kind: Null}},
	} {
		if got := Empty(x.t); got != x.want {
			t.Errorf("%+v: %v, not %v", x.t, got, x.want)
		}
	}
}

// P15.1: options made and opened.
func TestOptions(t *testing.T) {
	for _, n := range []int64{0, 7, -1, math.MaxInt64, math.MinInt64} {
		ref, some := Value{Kind: Ref, N: n}, Value{Kind: Some, N: n}
		if Wrap(ref) != some || Wrap(some) != some || Open(some) != ref || Open(ref) != ref {
			t.Errorf("%d: %v %v", n, Wrap(ref), Open(some))
		}
	}
	if Open(Value{Kind: None}) != (Value{Kind: Null}) || Wrap(Value{Kind: None}) != (Value{Kind: None}) {
		t.Error("an option that holds nothing")
	}
	for _, v := range []Value{{}, Int(3), Bool(true), Double(5), Str("x"), {Kind: Null}, {Kind: 6, N: 4, S: "y"}, {Kind: 77, N: -4, S: "z"}, {Kind: -1}, {N: 3, S: "w"}, {Kind: Null, N: 2}} {
		if Wrap(v) != v || Open(v) != v {
			t.Errorf("%v: %v %v", v, Wrap(v), Open(v))
		}
	}
}

// P15.1: Same, of all pairs.
func TestSame(t *testing.T) {
	list := []Value{
		{}, Int(0), Int(1), Int(-1), Bool(false), Bool(true), Double(0), Double(1), Double(1 << 63), Double(0x7ff8000000000001), Str(""), Str("a"), Str("b"), Str("a\x00"), At(0), At(1),
		{Kind: Null}, {Kind: None}, {Kind: Some}, {Kind: Some, N: 1}, {Kind: Null, N: 1}, {Kind: Ref, S: "a"}, {Kind: 77}, {N: 1}, {S: "a"},
	}
	for i, a := range list {
		for j, b := range list {
			if Same(a, b) != (i == j) {
				t.Errorf("%v and %v", a, b)
			}
		}
	}
	if !Same(Str(string([]byte("abc"))), Str("abc")) {
		t.Error("texts that stand elsewhere")
	}
}

// P15.5: two texts as one, up to as many bytes as there may be.
func TestJoin(t *testing.T) {
	for _, x := range [][2]int{{0, 0}, {0, 1}, {1, 0}, {3, 4}, {0, 1024}, {1024, 0}, {512, 512}, {1, 1023}, {1023, 1}, {0, 1025}, {1025, 0}, {1024, 1}, {1, 1024}, {513, 512}, {5000, 0}, {0, 5000}, {5000, 5000}} {
		a, b := strings.Repeat("a", x[0]), strings.Repeat("\xff", x[1])
		s, e := Join(a, b)
		if x[0]+x[1] > 1024 {
			if s != "" || e != api.ErrLong {
				t.Errorf("%v: %q %v", x, s, e)
			}
			continue
		}
		if s != a+b || e != api.OK {
			t.Errorf("%v: %q %v", x, s, e)
		}
		if shared(s, a) || shared(s, b) {
			t.Errorf("%v: not in memory of its own", x)
		}
	}
}

// P2: texts of values stand in memory of their own.
func TestValueMemory(t *testing.T) {
	a := strings.Clone("abc")
	v := Str(a)
	if shared(v.S, a) || shared(Wrap(v).S, v.S) || shared(Open(v).S, v.S) {
		t.Error("two answers share a text")
	}
}
