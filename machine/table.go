package machine

import (
	"fathom/api"
	"fathom/code"
)

// values are what an operator took, the top last; none takes more than three.
type values [3]int64

// change is how many values an operator takes from a stack, and how many it gives at most.
type change struct{ takes, gives int }

func (c change) isUnder(have int) bool { return have < c.takes }

func (c change) isOver(have, limit int) bool { return have-c.takes+c.gives > limit }

// operator is an entry of the table: what it takes and gives, on the stack and aside, and what it does with an
// instruction's number and the values that it took. If that is an error, the function has changed nothing.
type operator struct {
	stack, aside change
	do           func(m *machine, n int64, x values) api.Errno
}

// table has the operators by their numbers; some numbers between them are none.
type table [api.LastSuper + 1]operator

func newTable() table {
	t := baseOperators()
	for op := api.LitAdd; op <= api.LastSuper; op++ {
		// Each part asks for itself whether it may be done, so the whole takes and gives nothing of its own.
		t[op].do = inTurn(code.Parts(op)...)
	}
	return t
}

func baseOperators() table {
	return table{
		api.Lit:    {stack: change{0, 1}, do: (*machine).lit},
		api.Jump:   {do: (*machine).jump},
		api.Jumpz:  {stack: change{1, 0}, do: (*machine).jumpz},
		api.Call:   {do: (*machine).call},
		api.Ret:    {do: (*machine).ret},
		api.Halt:   {do: (*machine).halt},
		api.Do:     {change{2, 0}, change{0, 2}, (*machine).begin},
		api.Loop:   {aside: change{2, 2}, do: (*machine).loop},
		api.Index:  {change{0, 1}, change{1, 1}, (*machine).look},
		api.Add:    {stack: change{2, 1}, do: two(func(a, b int64) int64 { return a + b })},
		api.Sub:    {stack: change{2, 1}, do: two(func(a, b int64) int64 { return a - b })},
		api.Mul:    {stack: change{2, 1}, do: two(func(a, b int64) int64 { return a * b })},
		api.Div:    {stack: change{2, 1}, do: divided(quotient)},
		api.Mod:    {stack: change{2, 1}, do: divided(rest)},
		api.And:    {stack: change{2, 1}, do: two(func(a, b int64) int64 { return a & b })},
		api.Or:     {stack: change{2, 1}, do: two(func(a, b int64) int64 { return a | b })},
		api.Xor:    {stack: change{2, 1}, do: two(func(a, b int64) int64 { return a ^ b })},
		api.Invert: {stack: change{1, 1}, do: one(func(a int64) int64 { return ^a })},
		api.Negate: {stack: change{1, 1}, do: one(func(a int64) int64 { return -a })},
		api.Equal:  {stack: change{2, 1}, do: two(func(a, b int64) int64 { return flag(a == b) })},
		api.Less:   {stack: change{2, 1}, do: two(func(a, b int64) int64 { return flag(a < b) })},
		api.Dup:    {stack: change{1, 2}, do: order(0, 0)},
		api.Drop:   {stack: change{1, 0}, do: order()},
		api.Swap:   {stack: change{2, 2}, do: order(1, 0)},
		api.Over:   {stack: change{2, 3}, do: order(0, 1, 0)},
		api.Rot:    {stack: change{3, 3}, do: order(1, 2, 0)},
		api.Aside:  {change{1, 0}, change{0, 1}, (*machine).lay},
		api.Back:   {change{0, 1}, change{1, 0}, (*machine).back},
		api.Look:   {change{0, 1}, change{1, 1}, (*machine).look},
		api.Store:  {stack: change{2, 0}, do: (*machine).store},
		api.Fetch:  {stack: change{1, 1}, do: (*machine).fetch},
		api.Emit:   {stack: change{1, 0}, do: (*machine).emit},
		api.Dot:    {stack: change{1, 0}, do: (*machine).dot},
	}
}
