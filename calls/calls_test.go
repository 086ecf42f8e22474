package calls

import (
	"testing"

	"caulker/api"
	"caulker/audit"
	"caulker/base"
	"caulker/born"
	"caulker/cfg"
	"caulker/class"
	"caulker/dead"
	"caulker/demand"
	"caulker/diff"
	"caulker/edit"
	"caulker/eval"
	"caulker/flow"
	"caulker/graph"
	"caulker/heap"
	"caulker/infer"
	"caulker/kind"
	"caulker/lex"
	"caulker/lines"
	"caulker/migrate"
	"caulker/num"
	"caulker/option"
	"caulker/parse"
	"caulker/paths"
	"caulker/plan"
	"caulker/prune"
	"caulker/scope"
	"caulker/show"
	"caulker/span"
	"caulker/strict"
	"caulker/trace"
	"caulker/tree"
)

// Layer 1.
var (
	_ func(from, to int) (api.Span, api.Errno)              = span.Of
	_ func(s api.Span, n int) api.Errno                     = span.Check
	_ func(s api.Span) int                                  = span.Len
	_ func(a, b api.Span) int                               = span.Compare
	_ func(a, b api.Span) bool                              = span.Holds
	_ func(a, b api.Span) bool                              = span.Apart
	_ func(a, b api.Span) (api.Span, bool)                  = span.Meet
	_ func(list ...api.Span) (api.Span, bool)               = span.Cover
	_ func(list ...api.Span) int                            = span.Sum
	_ func(s api.Span, by int) (api.Span, api.Errno)        = span.Move
	_ func(text string, s api.Span) (string, api.Errno)     = span.Text
	_ func(list ...api.Span) bool                           = span.Sorted
	_ func(n int, list ...api.Span) ([]api.Span, api.Errno) = span.Gaps
)

// Layer 2.
var (
	_ func(text string) (*lines.Table, api.Errno)           = lines.Of
	_ func(t *lines.Table) int                              = (*lines.Table).Lines
	_ func(t *lines.Table, at int) (lines.Place, api.Errno) = (*lines.Table).At
	_ func(t *lines.Table, p lines.Place) (int, api.Errno)  = (*lines.Table).Byte
	_ func(t *lines.Table, n int) (api.Span, api.Errno)     = (*lines.Table).Line
	_ func(t *lines.Table, n int) (string, api.Errno)       = (*lines.Table).Text
	_ func(t *lines.Table, s api.Span) (string, api.Errno)  = (*lines.Table).Show
	_ func(t *lines.Table, s api.Span) (string, api.Errno)  = (*lines.Table).Point
	_ func(p lines.Place) string                            = lines.Place.String
)

// Layer 3.
var (
	_ func(n int, list ...api.Edit) api.Errno                                   = edit.Check
	_ func(text string, list ...api.Edit) (string, api.Errno)                   = edit.Apply
	_ func(text string, list ...api.Edit) ([]api.Edit, api.Errno)               = edit.Invert
	_ func(text string, list ...api.Edit) ([]api.Edit, api.Errno)               = edit.Tidy
	_ func(text string, first, then []api.Edit) ([]api.Edit, api.Errno)         = edit.Then
	_ func(text string, at int, behind bool, list ...api.Edit) (int, api.Errno) = edit.Move
	_ func(list ...api.Edit) int                                                = edit.Cost
)

// Layer 4.
var (
	_ func(a, b string) ([]api.Edit, bool, api.Errno)             = diff.Bytes
	_ func(a, b string) (int, bool)                               = diff.Far
	_ func(text string, list ...api.Edit) ([]api.Span, api.Errno) = diff.Kept
)

// Layer 5.
var (
	_ func(s string) (int64, api.Errno)                  = num.Int
	_ func(s string) (uint64, api.Errno)                 = num.Float
	_ func(bits uint64) uint64                           = num.Norm
	_ func(sign string, a, b int64) (int64, api.Errno)   = num.Op
	_ func(sign string, a, b uint64) (uint64, api.Errno) = num.FloatOp
	_ func(sign string, a, b int64) (bool, api.Errno)    = num.Compare
	_ func(sign string, a, b uint64) (bool, api.Errno)   = num.FloatCompare
	_ func(a int64) int64                                = num.Neg
	_ func(a uint64) uint64                              = num.FloatNeg
	_ func(a uint64) int64                               = num.ToInt
	_ func(a int64) uint64                               = num.ToFloat
)

// Layer 6.
var (
	_ func(text string) ([]api.Token, api.Fault) = lex.Lex
	_ func(text string, t api.Token) string      = lex.Say
	_ func(s string) (string, api.Errno)         = lex.Quote
	_ func(s string) (string, api.Errno)         = lex.Unquote
	_ func(s string) bool                        = lex.Kept
	_ func(s string) bool                        = lex.Name
)

// Layer 7.
var (
	_ func(kind int) string                         = tree.Name
	_ func(kind int) bool                           = tree.Value
	_ func(kind int) bool                           = tree.Stat
	_ func(b *tree.Builder, n api.Node) (int, bool) = (*tree.Builder).Add
	_ func(b *tree.Builder, i int) api.Node         = (*tree.Builder).At
	_ func(b *tree.Builder) api.Tree                = (*tree.Builder).Tree
	_ func(t api.Tree) api.Tree                     = tree.Clone
	_ func(t api.Tree) api.Errno                    = tree.Check
	_ func(t api.Type) bool                         = tree.Plain
	_ func(t api.Type) string                       = tree.TypeText
	_ func(t api.Tree, at int) string               = tree.Form
	_ func(a, b api.Tree) bool                      = tree.Same
	_ func(t api.Tree, at int) []int                = tree.Walk
	_ func(t api.Tree) int                          = tree.Depth
	_ func(t api.Tree) (int, bool)                  = tree.Marked
	_ func(t api.Tree) api.Tree                     = tree.Erase
)

// Layer 8.
var (
	_ func(text string) (api.Tree, api.Fault) = parse.Parse
)

// Layer 9.
var (
	_ func(t api.Tree) (string, api.Errno)         = show.Program
	_ func(t api.Tree, at int) (string, api.Errno) = show.Node
)

// Layer 10.
var (
	_ func(base int, name string, dims int) (api.Type, api.Errno)  = kind.Of
	_ func() api.Type                                              = kind.Null
	_ func() api.Type                                              = kind.None
	_ func(t api.Type) bool                                        = kind.Right
	_ func(t api.Type) bool                                        = kind.Ref
	_ func(t api.Type) byte                                        = kind.Outer
	_ func(t api.Type, mark byte) (api.Type, api.Errno)            = kind.With
	_ func(t api.Type, layer int, mark byte) (api.Type, api.Errno) = kind.Mark
	_ func(t api.Type) api.Type                                    = kind.Bare
	_ func(t api.Type) []int                                       = kind.Layers
	_ func(t api.Type) (api.Type, api.Errno)                       = kind.Elem
	_ func(t api.Type) (api.Type, api.Errno)                       = kind.Array
	_ func(a, b api.Type) bool                                     = kind.Alike
	_ func(a, b api.Type) bool                                     = kind.Inside
	_ func(a, b api.Type) bool                                     = kind.Less
	_ func(t api.Type) bool                                        = kind.Number
	_ func(t api.Type, base int) bool                              = kind.Is
	_ func(t api.Type) string                                      = kind.Show
)

// Layer 11.
var (
	_ func(t api.Tree) (*class.Table, api.Fault)                    = class.Of
	_ func(x *class.Table) []string                                 = (*class.Table).Names
	_ func(x *class.Table, name string) bool                        = (*class.Table).Has
	_ func(x *class.Table, name string) int                         = (*class.Table).Node
	_ func(x *class.Table, name string) string                      = (*class.Table).Parent
	_ func(x *class.Table, name string) []string                    = (*class.Table).Chain
	_ func(x *class.Table, a, b string) bool                        = (*class.Table).Sub
	_ func(x *class.Table, class, name string) (class.Member, bool) = (*class.Table).Field
	_ func(x *class.Table, class, name string) (class.Member, bool) = (*class.Table).Method
	_ func(x *class.Table, class string) (class.Member, bool)       = (*class.Table).Init
	_ func(x *class.Table, class string) []class.Member             = (*class.Table).Fields
	_ func(x *class.Table, name string) []class.Member              = (*class.Table).Own
	_ func(x *class.Table, class, name string) []class.Member       = (*class.Table).Family
	_ func(x *class.Table, a, b api.Type) bool                      = (*class.Table).Fits
)

// Layer 12.
var (
	_ func(t api.Tree, node int) (*scope.Scope, api.Fault) = scope.Of
	_ func(s *scope.Scope) []scope.Local                   = (*scope.Scope).Locals
	_ func(s *scope.Scope) int                             = (*scope.Scope).Len
	_ func(s *scope.Scope, node int) int                   = (*scope.Scope).Slot
	_ func(s *scope.Scope, name string) int                = (*scope.Scope).Find
	_ func(s *scope.Scope, slot int) []int                 = (*scope.Scope).Uses
	_ func(s *scope.Scope, slot int) []int                 = (*scope.Scope).Sets
)

// Layer 13.
var (
	_ func(t api.Tree) (*base.Info, api.Fault) = base.Of
	_ func(x *base.Info) api.Tree              = (*base.Info).Tree
	_ func(x *base.Info) *class.Table          = (*base.Info).Table
	_ func(x *base.Info, i int) api.Node       = (*base.Info).Node
	_ func(x *base.Info) int                   = (*base.Info).Len
	_ func(x *base.Info, node int) api.Type    = (*base.Info).Type
	_ func(x *base.Info, node int) int         = (*base.Info).Slot
	_ func(x *base.Info, node int) int         = (*base.Info).Within
	_ func(x *base.Info) []base.Body           = (*base.Info).Bodies
)

// Layer 14.
var (
	_ func(x *base.Info) (*paths.Report, api.Fault) = paths.Check
	_ func(r *paths.Report, node int) bool          = (*paths.Report).Reached
	_ func(r *paths.Report, body int) bool          = (*paths.Report).Falls
)

// Layer 15.
var (
	_ func(n int64) heap.Value                                                     = heap.Int
	_ func(b bool) heap.Value                                                      = heap.Bool
	_ func(bits uint64) heap.Value                                                 = heap.Double
	_ func(s string) heap.Value                                                    = heap.Str
	_ func(n int) heap.Value                                                       = heap.At
	_ func(t api.Type) heap.Value                                                  = heap.Empty
	_ func(v heap.Value) heap.Value                                                = heap.Wrap
	_ func(v heap.Value) heap.Value                                                = heap.Open
	_ func(h *heap.Heap, class string, fields ...api.Type) (heap.Value, api.Errno) = (*heap.Heap).Object
	_ func(h *heap.Heap, elem api.Type, n int64) (heap.Value, api.Errno)           = (*heap.Heap).Array
	_ func(h *heap.Heap, v heap.Value) (string, bool)                              = (*heap.Heap).Class
	_ func(h *heap.Heap, v heap.Value) (api.Type, bool)                            = (*heap.Heap).Elem
	_ func(h *heap.Heap, v heap.Value) int                                         = (*heap.Heap).Len
	_ func(h *heap.Heap, v heap.Value, i int64) (heap.Value, api.Errno)            = (*heap.Heap).Load
	_ func(h *heap.Heap, v heap.Value, i int64, to heap.Value) api.Errno           = (*heap.Heap).Store
	_ func(h *heap.Heap) int                                                       = (*heap.Heap).Objects
	_ func(h *heap.Heap) int                                                       = (*heap.Heap).Cells
	_ func(h *heap.Heap) *heap.Heap                                                = (*heap.Heap).Clone
	_ func(a, b string) (string, api.Errno)                                        = heap.Join
	_ func(a, b heap.Value) bool                                                   = heap.Same
)

// Layer 16.
var (
	_ func(x *base.Info, in []int64, fuel int) api.Run = eval.Run
)

// Layer 17.
var (
	_ func(x *base.Info, body int) *cfg.Graph = cfg.Of
	_ func(g *cfg.Graph) int                  = (*cfg.Graph).Len
	_ func(g *cfg.Graph, i int) cfg.Node      = (*cfg.Graph).Node
	_ func(g *cfg.Graph) int                  = (*cfg.Graph).Start
	_ func(g *cfg.Graph) int                  = (*cfg.Graph).End
	_ func(g *cfg.Graph, i int) []int         = (*cfg.Graph).Then
	_ func(g *cfg.Graph) []bool               = (*cfg.Graph).Reached
	_ func(g *cfg.Graph) []int                = (*cfg.Graph).Order
	_ func(x *base.Info, node int) int        = cfg.Held
)

// Layer 18.
var (
	_ func(x *base.Info, node int) (int, int)             = flow.Source
	_ func(x *base.Info, body int, asks bool) *flow.Facts = flow.Solve
	_ func(f *flow.Facts, node int) bool                  = (*flow.Facts).Holds
	_ func(f *flow.Facts, node int) bool                  = (*flow.Facts).Reached
	_ func(f *flow.Facts, node, slot int) bool            = (*flow.Facts).Known
	_ func(f *flow.Facts, node, slot int) bool            = (*flow.Facts).Left
	_ func(f *flow.Facts) int                             = (*flow.Facts).Rounds
)

// Layer 19.
var (
	_ func(x *base.Info) *born.Report         = born.Look
	_ func(r *born.Report) []born.Late        = (*born.Report).Late
	_ func(r *born.Report, field int) bool    = (*born.Report).Is
	_ func(r *born.Report, class string) bool = (*born.Report).Leaks
)

// Layer 20.
var (
	_ func() strict.Place                          = strict.Nowhere
	_ func(x *base.Info, asks bool) *strict.Report = strict.Look
	_ func(r *strict.Report) []strict.Issue        = (*strict.Report).Issues
	_ func(r *strict.Report) bool                  = (*strict.Report).Right
	_ func(i strict.Issue) api.Errno               = strict.Issue.Code
	_ func(text string) (*base.Info, api.Fault)    = strict.Fits
	_ func(text string) (*base.Info, api.Fault)    = strict.Program
)

// Layer 21.
var (
	_ func(nodes int) (*graph.Graph, api.Errno)                 = graph.New
	_ func(g *graph.Graph, e graph.Edge) api.Errno              = (*graph.Graph).Add
	_ func(g *graph.Graph) int                                  = (*graph.Graph).Len
	_ func(g *graph.Graph) []graph.Edge                         = (*graph.Graph).Edges
	_ func(g *graph.Graph) []bool                               = (*graph.Graph).Solve
	_ func(g *graph.Graph, edge int) []bool                     = (*graph.Graph).Without
	_ func(g *graph.Graph, nodes ...int) ([]bool, []graph.Edge) = (*graph.Graph).Shut
	_ func(g *graph.Graph, node int) []graph.Edge               = (*graph.Graph).Path
	_ func(g *graph.Graph) []int                                = (*graph.Graph).Far
	_ func(g *graph.Graph, set []bool) bool                     = (*graph.Graph).Right
)

// Layer 22.
var (
	_ func(t api.Tree) []strict.Place                                                = infer.Places
	_ func(t api.Tree, list ...strict.Place) api.Tree                                = infer.Mark
	_ func(x *base.Info, asks bool, shut ...strict.Place) (*infer.Result, api.Fault) = infer.Solve
	_ func(r *infer.Result) *base.Info                                               = (*infer.Result).Info
	_ func(r *infer.Result) []strict.Place                                           = (*infer.Result).Marked
	_ func(r *infer.Result) []int                                                    = (*infer.Result).Guards
	_ func(r *infer.Result) []int                                                    = (*infer.Result).Cuts
	_ func(r *infer.Result, p strict.Place) []infer.Step                             = (*infer.Result).Path
	_ func(r *infer.Result) []infer.Step                                             = (*infer.Result).Steps
	_ func(r *infer.Result) int                                                      = (*infer.Result).Rounds
)

// Layer 23.
var (
	_ func(x *base.Info) (*demand.Result, api.Fault) = demand.Find
	_ func(r *demand.Result, param int) bool         = (*demand.Result).Alone
	_ func(r *demand.Result, param int) bool         = (*demand.Result).Is
	_ func(r *demand.Result) []strict.Place          = (*demand.Result).Places
)

// Layer 24.
var (
	_ func(text string, guards, demands bool) (*plan.Plan, api.Fault) = plan.Make
	_ func(p *plan.Plan) []plan.Change                                = (*plan.Plan).Changes
	_ func(p *plan.Plan) *infer.Result                                = (*plan.Plan).Result
	_ func(p *plan.Plan) int                                          = (*plan.Plan).Demands
	_ func(p *plan.Plan) (string, api.Errno)                          = (*plan.Plan).Text
	_ func(list []plan.Change)                                        = plan.Sort
	_ func(list []plan.Change) []api.Edit                             = plan.Edits
	_ func(text string, list []plan.Change) (*base.Info, bool)        = plan.Program
)

// Layer 25.
var (
	_ func(x *base.Info, body, slot int) bool          = option.Closed
	_ func(x *base.Info, body int) []int               = option.Locals
	_ func(x *base.Info, body, slot int) []plan.Change = option.Changes
	_ func(text string) (string, int, api.Fault)       = option.Wrap
)

// Layer 26.
var (
	_ func(x *base.Info) []dead.Check            = dead.Find
	_ func(x *base.Info) []plan.Change           = dead.Changes
	_ func(text string) (string, int, api.Fault) = dead.Remove
)

// Layer 27.
var (
	_ func(text string, list []plan.Change, k int) bool          = prune.Needed
	_ func(text string, list []plan.Change) ([]plan.Change, int) = prune.Prune
	_ func(text string, list []plan.Change) []int                = prune.Idle
)

// Layer 28.
var (
	_ func(text string, p *plan.Plan, list []plan.Change) (*trace.Trace, api.Errno) = trace.Of
	_ func(t *trace.Trace) []trace.Cause                                            = (*trace.Trace).Causes
	_ func(t *trace.Trace) []string                                                 = (*trace.Trace).Lines
	_ func(t *trace.Trace) bool                                                     = (*trace.Trace).Real
	_ func(n api.Node) string                                                       = trace.Source
)

// Layer 29.
var (
	_ func(text string, mode migrate.Mode) (migrate.Output, api.Fault) = migrate.Migrate
	_ func() []migrate.Mode                                            = migrate.Modes
	_ func(o migrate.Output) []int                                     = migrate.Output.MarkPlaces
)

// Layer 30.
var (
	_ func(a, b api.Run) bool                                        = audit.Same
	_ func(x, y *base.Info, in []int64, fuel int) bool               = audit.Runs
	_ func(text string, list ...api.Edit) bool                       = audit.Minimal
	_ func(text string, mode migrate.Mode, in []int64, fuel int) int = audit.Look
)

// TestLimits: each layer's limits, as the section 'Words' numbers them.
func TestLimits(t *testing.T) {
	for _, x := range []struct {
		name      string
		got, want int
	}{
		{"span.MaxText", span.MaxText, 65536},
		{"edit.MaxEdits", edit.MaxEdits, 4096},
		{"edit.MaxNew", edit.MaxNew, 65536},
		{"diff.MaxSide", diff.MaxSide, 16384},
		{"diff.MaxFar", diff.MaxFar, 512},
		{"num.MaxDigits", num.MaxDigits, 15},
		{"lex.MaxTokens", lex.MaxTokens, 16384},
		{"lex.MaxWord", lex.MaxWord, 64},
		{"lex.MaxDigits", lex.MaxDigits, 20},
		{"lex.MaxQuoted", lex.MaxQuoted, 256},
		{"tree.MaxNodes", tree.MaxNodes, 16384},
		{"tree.MaxDims", tree.MaxDims, 4},
		{"parse.MaxNodes", parse.MaxNodes, 8192},
		{"parse.MaxDeep", parse.MaxDeep, 60},
		{"parse.MaxList", parse.MaxList, 64},
		{"scope.MaxLocals", scope.MaxLocals, 64},
		{"heap.MaxObjects", heap.MaxObjects, 4096},
		{"heap.MaxCells", heap.MaxCells, 65536},
		{"heap.MaxText", heap.MaxText, 1024},
		{"eval.MaxCalls", eval.MaxCalls, 100},
		{"eval.MaxOut", eval.MaxOut, 1024},
		{"graph.MaxNodes", graph.MaxNodes, 8192},
		{"graph.MaxEdges", graph.MaxEdges, 16384},
		{"graph.Null", graph.Null, -1},
		{"num.NaN", num.NaN, 0x7ff8000000000001},
	} {
		if x.got != x.want {
			t.Errorf("%s: %d, not %d", x.name, x.got, x.want)
		}
	}
}

// TestNumbers: kinds that are numbered one behind the other keep their numbers.
func TestNumbers(t *testing.T) {
	for _, x := range []struct {
		name  string
		first int
		list  []int
	}{
		{"cfg", 1, []int{cfg.Join, cfg.Read, cfg.Set, cfg.Test, cfg.Fork, cfg.Use, cfg.Must, cfg.Leave, cfg.End}},
		{"flow", 1, []int{flow.Never, flow.Maybe, flow.Alike}},
		{"born", 1, []int{born.NoInit, born.Ends, born.Leaks, born.Reads, born.Above}},
		{"strict", 1, []int{strict.Flows, strict.Differ, strict.Asked, strict.Unborn, strict.Empty, strict.Below, strict.Option}},
		{"plan", 1, []int{plan.Mark, plan.Asked, plan.Given, plan.Dead, plan.Wrapped}},
		{"audit", 0, []int{audit.Fine, audit.Wrong, audit.Other, audit.Moved, audit.Idle, audit.Parted, audit.Untold, audit.Refused}},
		{"heap.Nothing", 0, []int{heap.Nothing}},
		{"heap.Ref", api.Class, []int{heap.Ref}},
		{"heap.Null", api.Null, []int{heap.Null, heap.None, heap.Some}},
	} {
		for i, got := range x.list {
			if got != x.first+i {
				t.Errorf("%s: %d, not %d", x.name, got, x.first+i)
			}
		}
	}
}
