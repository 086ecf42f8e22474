package tree

import (
	"math"

	"caulker/api"
)

// many is as many as one likes.
const many = math.MaxInt

// shape is what the nodes of a kind have: its name, of how many nodes they are made, at least and at most, and whether they have a text and a type.
type shape struct {
	name        string
	least, most int
	text, typ   bool
}

// shapes are the kinds' shapes; that of no kind has no name.
var shapes = [api.Kinds]shape{
	api.Program:   {"program", 0, many, false, false},
	api.ClassOf:   {"class", 0, many, true, false},
	api.Ancestor:  {"extends", 0, 0, true, false},
	api.Field:     {"field", 0, 0, true, true},
	api.Init:      {"init", 1, many, false, false},
	api.Method:    {"method", 1, many, true, true},
	api.Param:     {"param", 0, 0, true, true},
	api.Block:     {"block", 0, many, false, false},
	api.Decl:      {"decl", 0, 1, true, true},
	api.Assign:    {"assign", 2, 2, false, false},
	api.If:        {"if", 2, 3, false, false},
	api.While:     {"while", 2, 2, false, false},
	api.Break:     {"break", 0, 0, false, false},
	api.Continue:  {"continue", 0, 0, false, false},
	api.Return:    {"return", 0, 1, false, false},
	api.Print:     {"print", 1, 1, false, false},
	api.Super:     {"super", 0, many, false, false},
	api.Expr:      {"expr", 1, 1, false, false},
	api.IntLit:    {"int", 0, 0, false, false},
	api.DoubleLit: {"double", 0, 0, true, false},
	api.BoolLit:   {"bool", 0, 0, false, false},
	api.StrLit:    {"str", 0, 0, true, false},
	api.NullLit:   {"null", 0, 0, false, false},
	api.This:      {"this", 0, 0, false, false},
	api.Var:       {"var", 0, 0, true, false},
	api.Get:       {"get", 1, 1, true, false},
	api.Index:     {"index", 2, 2, false, false},
	api.Length:    {"length", 1, 1, false, false},
	api.Call:      {"call", 1, many, true, false},
	api.New:       {"new", 0, many, false, true},
	api.NewArray:  {"array", 1, 1, false, true},
	api.Neg:       {"neg", 1, 1, false, false},
	api.Not:       {"not", 1, 1, false, false},
	api.Binary:    {"binary", 2, 2, true, false},
	api.Cast:      {"cast", 1, 1, false, true},
	api.ToInt:     {"toint", 1, 1, false, false},
	api.ToDouble:  {"todouble", 1, 1, false, false},
	api.Input:     {"input", 0, 0, false, false},
	api.Ask:       {"ask", 1, 1, false, false},
	api.Guard:     {"guard", 1, 1, false, false},
	api.Some:      {"some", 1, 1, false, false},
	api.NoneLit:   {"none", 0, 0, false, false},
	api.IsSome:    {"issome", 1, 1, false, false},
	api.IsNone:    {"isnone", 1, 1, false, false},
	api.Val:       {"val", 1, 1, false, false},
}

// known: is there such a kind?
func known(kind int) bool { return api.NoNode < kind && kind < api.Kinds }

// Name: a kind's name; empty: there is none.
func Name(kind int) string {
	if !known(kind) {
		return ""
	}
	return shapes[kind].name
}

// Value: has a kind a value?
func Value(kind int) bool { return api.IntLit <= kind && kind <= api.Val }

// Stat: is a kind a statement?
func Stat(kind int) bool { return api.Block <= kind && kind <= api.Expr }
