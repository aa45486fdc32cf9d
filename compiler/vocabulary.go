package compiler

import "fathom/api"

// kind tells what the compiler does at a token that means something by itself.
type kind int

const (
	operator kind = iota
	colon
	variable
	constant
	recurse
	opensIf
	opensBegin
	opensDo
	closes
)

type meaning struct {
	token string
	kind  kind
	op    int
}

// vocabulary has every token that means something by itself: none of them may be a name.
var vocabulary = [...]meaning{
	{"+", operator, api.Add},
	{"-", operator, api.Sub},
	{"*", operator, api.Mul},
	{"/", operator, api.Div},
	{"mod", operator, api.Mod},
	{"and", operator, api.And},
	{"or", operator, api.Or},
	{"xor", operator, api.Xor},
	{"invert", operator, api.Invert},
	{"negate", operator, api.Negate},
	{"=", operator, api.Equal},
	{"<", operator, api.Less},
	{"dup", operator, api.Dup},
	{"drop", operator, api.Drop},
	{"swap", operator, api.Swap},
	{"over", operator, api.Over},
	{"rot", operator, api.Rot},
	{">r", operator, api.Aside},
	{"r>", operator, api.Back},
	{"r@", operator, api.Look},
	{"!", operator, api.Store},
	{"@", operator, api.Fetch},
	{"emit", operator, api.Emit},
	{".", operator, api.Dot},
	{"i", operator, api.Index},
	{":", colon, 0},
	{"variable", variable, 0},
	{"constant", constant, 0},
	{"recurse", recurse, 0},
	{"if", opensIf, 0},
	{"begin", opensBegin, 0},
	{"do", opensDo, 0},
	{";", closes, 0},
	{"then", closes, 0},
	{"else", closes, 0},
	{"until", closes, 0},
	{"while", closes, 0},
	{"repeat", closes, 0},
	{"loop", closes, 0},
}

func meaningOf(token string) (meaning, bool) {
	for _, m := range vocabulary {
		if m.token == token {
			return m, true
		}
	}
	return meaning{}, false
}
