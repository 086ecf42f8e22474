package dead

import (
	"math"
	"slices"
	"strings"
	"testing"
	"unsafe"

	"caulker/api"
	"caulker/base"
	"caulker/plan"
	"caulker/strict"
	"caulker/tree"
)

// P1: texts that are no programs.
func TestTexts(t *testing.T) {
	for text, want := range map[string]api.Fault{
		"": {Code: api.ErrMain}, "\x00": {Code: api.ErrSign}, "\"": {Code: api.ErrOpen}, "class": {Code: api.ErrToken, At: 5}, strings.Repeat(" ", 1<<16+1): {Code: api.ErrLong}, main[:len(main)-2]: {Code: api.ErrToken, At: len(main) - 2},
	} {
		if got, n, f := Remove(text); got != "" || n != 0 || f != want {
			t.Errorf("%.20s: %d, %v, not %v", text, n, f, want)
		}
	}
}

// P1: a text of as many bytes as there may be, many checks, and one as deep as it may be.
func TestMany(t *testing.T) {
	text := in("bool b = p == null" + strings.Repeat(" || p!=null", 100) + "; b = " + strings.Repeat("(", 57) + "null == p" + strings.Repeat(")", 57) + ";")
	text += strings.Repeat(" ", 1<<16-len(text))
	got, n := hold(t, text)
	want := in("bool b = false" + strings.Repeat(" || true", 100) + "; b = " + strings.Repeat("(", 57) + "false" + strings.Repeat(")", 57) + ";")
	if n != 102 || strings.TrimRight(got, " ") != strings.TrimRight(want, " ") || !strings.HasSuffix(got, "    ") {
		t.Errorf("%d: %s", n, got)
	}
}

// P1, P26.2: a program that was read from no text: its nodes stand in strange places.
func TestGrown(t *testing.T) {
	p := fits(t, "class Main { int main() { Main a = this; print(a == null); print(null != a); print(a != null); return 1; } }").Tree()
	places := []api.Span{{From: math.MaxInt, To: math.MinInt}, {From: -3, To: 7}, {From: -3, To: -9}}
	k := 0
	for node, n := range p.Nodes {
		if n.Kind == api.Binary {
			p.Nodes[node].Span = places[k]
			p.Nodes[n.Kids[0]].From = places[k].From + k%2
			k++
		}
	}
	x, f := base.Of(p)
	if x == nil {
		t.Fatal(f)
	}
	var got []string
	var spans []api.Span
	for _, c := range Changes(x) {
		got = append(got, c.Text)
		spans = append(spans, c.Span)
	}
	if want := []string{"true", " true", "false"}; !slices.Equal(got, want) || !slices.Equal(spans, []api.Span{places[2], places[1], places[0]}) {
		t.Errorf("%q, %v", got, spans)
	}
}

// spoil changes all of a list, its spare room too.
func spoil[T any](list []T, to T) {
	for i := range list[:cap(list)] {
		list[:cap(list)][i] = to
	}
}

// P2: what is answered is new memory each time, and neither a text nor a program is kept or changed.
func TestMemory(t *testing.T) {
	x := fits(t, in("print(p == null); print(l == null); print((p) != null);"))
	form := tree.Form(x.Tree(), x.Tree().Root)
	checks, list := Find(x), Changes(x)
	spoil(Find(x), Check{Node: 9})
	spoil(Changes(x), plan.Change{Kind: 9, Place: strict.Place{Node: 9}})
	if !slices.Equal(Find(x), checks) || !slices.Equal(Changes(x), list) || len(list) != 3 || tree.Form(x.Tree(), x.Tree().Root) != form {
		t.Errorf("%v, %v", checks, list)
	}
	for _, text := range []string{in("print(p == null);"), in("print(q == null);")} {
		bytes := []byte(text)
		got, _, _ := Remove(unsafe.String(&bytes[0], len(bytes)))
		want := strings.Clone(got)
		if string(bytes) != text {
			t.Errorf("%s", bytes)
		}
		spoil(bytes, '-')
		if got != want {
			t.Errorf("%s, not %s", got, want)
		}
	}
}
