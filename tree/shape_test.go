package tree

import (
	"math"
	"strings"
	"testing"

	"caulker/api"
)

// The kinds as the document lists them: a name, of how many nodes they are made, and whether they have a Text and a Type.
const listed = `program 0+
class 0+ text
extends 0 text
field 0 text type
init 1+
method 1+ text type
param 0 text type
block 0+
decl 0-1 text type
assign 2
if 2-3
while 2
break 0
continue 0
return 0-1
print 1
super 0+
expr 1
int 0
double 0 text
bool 0
str 0 text
null 0
this 0
var 0 text
get 1 text
index 2
length 1
call 1+ text
new 0+ type
array 1 type
neg 1
not 1
binary 2 text
cast 1 type
toint 1
todouble 1
input 0
ask 1
guard 1
some 1
none 0
issome 1
isnone 1
val 1`

// listedKind is what the document lists of a kind: its name, how many nodes it is made of, as a text, and the words behind these.
func listedKind(kind int) (name, many, rest string) {
	lines := strings.Split(listed, "\n")
	if kind < 1 || kind > len(lines) {
		return "", "", ""
	}
	words := strings.SplitN(lines[kind-1]+"  ", " ", 3)
	return words[0], words[1], words[2]
}

// made: may a kind be made of so many, as the document lists it?
func made(kind, n int) bool {
	_, many, _ := listedKind(kind)
	switch many {
	case "0+":
		return true
	case "1+":
		return n >= 1
	case "0-1":
		return n <= 1
	case "2-3":
		return n == 2 || n == 3
	case "0", "1", "2":
		return n == int(many[0]-'0')
	}
	return false
}

// has: has a kind a text, or a type, as the document lists it?
func has(kind int, what string) bool {
	_, _, rest := listedKind(kind)
	return strings.Contains(rest, what)
}

// kindsToTry are all kinds, and some that there are not.
func kindsToTry() []int {
	list := []int{math.MinInt, math.MinInt32, math.MaxInt32, math.MaxInt, 256, 257, 1 << 32, 1<<32 + 1}
	for kind := -3; kind < 60; kind++ {
		list = append(list, kind)
	}
	return list
}

// P7.2: names, statements and values.
func TestKinds(t *testing.T) {
	if api.Kinds != 46 || strings.Count(listed, "\n")+2 != api.Kinds {
		t.Error("not all kinds are listed")
	}
	stats, values := 0, 0
	for _, kind := range kindsToTry() {
		if want, _, _ := listedKind(kind); Name(kind) != want {
			t.Errorf("Name %d: %q, not %q", kind, Name(kind), want)
		}
		if Stat(kind) != (kind >= 8 && kind <= 18) {
			t.Errorf("Stat %d", kind)
		}
		if Value(kind) != (kind >= 19 && kind <= 45) {
			t.Errorf("Value %d", kind)
		}
		if Stat(kind) {
			stats++
		}
		if Value(kind) {
			values++
		}
	}
	if stats != 11 || values != 27 || Name(api.Block) != "block" || Name(api.Expr) != "expr" || Name(api.IntLit) != "int" || Name(api.Val) != "val" {
		t.Errorf("%d statements, %d values", stats, values)
	}
}

// withKids is a program of a node of a kind that is made of so many.
func withKids(kind, kids int) api.Tree {
	n := api.Node{Kind: kind}
	if has(kind, "type") {
		n.Type = api.Type{Base: api.Int, Marks: " "}
	}
	var list []api.Node
	for i := range kids {
		list = append(list, api.Node{Kind: api.Break})
		n.Kids = append(n.Kids, i)
	}
	list = append(list, n, api.Node{Kind: api.Program, Kids: []int{kids}})
	return api.Tree{Nodes: list, Root: kids + 1}
}

// P7.2: of how many nodes each kind may be made.
func TestKindsKids(t *testing.T) {
	for _, kind := range kindsToTry() {
		for _, kids := range []int{0, 1, 2, 3, 4, 5, 100, MaxNodes - 2} {
			want := api.ErrArgs
			if Name(kind) == "" {
				want = api.ErrMissing
			} else if made(kind, kids) {
				want = api.OK
			}
			if e := Check(withKids(kind, kids)); e != want {
				t.Errorf("%d %q of %d: %d, not %d", kind, Name(kind), kids, e, want)
			}
		}
	}
}

// P7.2: a text and a type just of those kinds that have them.
func TestKindsHave(t *testing.T) {
	right := api.Type{Base: api.Class, Name: "A", Dims: 1, Marks: "?o"}
	for kind := 1; kind < api.Kinds; kind++ {
		least := 0
		for !made(kind, least) {
			least++
		}
		p := withKids(kind, least)
		n := &p.Nodes[least]
		for _, x := range []struct {
			text string
			typ  api.Type
			ok   bool
		}{
			{"", api.Type{}, !has(kind, "type")},
			{"", right, has(kind, "type")},
			{"x", api.Type{}, has(kind, "text") && !has(kind, "type")},
			{"\x00", right, has(kind, "text") && has(kind, "type")},
			{"", api.Type{Base: api.Void, Marks: " "}, has(kind, "type")},
			{"", api.Type{Marks: " "}, false},
			{"", api.Type{Base: api.Int}, false},
			{"", api.Type{Base: api.Class, Name: "A", Marks: "!"}, false},
			{"", api.Type{Name: "A"}, false},
			{"", api.Type{Dims: 1}, false},
		} {
			n.Text, n.Type = x.text, x.typ
			want := api.ErrForm
			if x.ok {
				want = api.OK
			}
			if e := Check(p); e != want {
				t.Errorf("%s %q %v: %d, not %d", Name(kind), x.text, x.typ, e, want)
			}
		}
	}
}
