package machine

import (
	"fathom/api"
	"fathom/code"
)

// values are what an operator took, the top last; none takes more than three.
type values [3]int64

// Change is how many values an operator takes from a stack, and how many it gives at most.
type Change struct{ Takes, Gives int }

// IsUnder tells whether a stack that has so many values has too few.
func (c Change) IsUnder(have int) bool { return have < c.Takes }

// IsOver tells whether a stack that has so many values would then have more than its limit.
func (c Change) IsOver(have, limit int) bool { return have-c.Takes+c.Gives > limit }

// operator is an entry of the table: what it takes and gives, on the stack and aside, and what it does with an
// instruction's number and the values that it took. If that is an error, the function has changed nothing.
type operator struct {
	stack, aside Change
	do           func(m *machine, n int64, x values) api.Errno
}

// Table has the operators by their numbers; some numbers between them are none. Runs leave it as it is.
type Table [api.LastSuper + 1]operator

// NewTable makes the table that runs ask.
func NewTable() *Table {
	t := baseOperators()
	for op := api.LitAdd; op <= api.LastSuper; op++ {
		// Each part asks for itself whether it may be done, so the whole takes and gives nothing of its own.
		t[op].do = inTurn(code.Parts(op)...)
	}
	return &t
}

// Change answers what an operator takes from the stack and gives to it; nothing for one that stands for several, as
// its parts do that.
func (t *Table) Change(op int) Change { return t[op].stack }

func baseOperators() Table {
	return Table{
		api.Lit:    {stack: Change{0, 1}, do: (*machine).lit},
		api.Jump:   {do: (*machine).jump},
		api.Jumpz:  {stack: Change{1, 0}, do: (*machine).jumpz},
		api.Call:   {do: (*machine).call},
		api.Ret:    {do: (*machine).ret},
		api.Halt:   {do: (*machine).halt},
		api.Do:     {Change{2, 0}, Change{0, 2}, (*machine).begin},
		api.Loop:   {aside: Change{2, 2}, do: (*machine).loop},
		api.Index:  {Change{0, 1}, Change{1, 1}, (*machine).look},
		api.Add:    {stack: Change{2, 1}, do: two(func(a, b int64) int64 { return a + b })},
		api.Sub:    {stack: Change{2, 1}, do: two(func(a, b int64) int64 { return a - b })},
		api.Mul:    {stack: Change{2, 1}, do: two(func(a, b int64) int64 { return a * b })},
		api.Div:    {stack: Change{2, 1}, do: divided(quotient)},
		api.Mod:    {stack: Change{2, 1}, do: divided(rest)},
		api.And:    {stack: Change{2, 1}, do: two(func(a, b int64) int64 { return a & b })},
		api.Or:     {stack: Change{2, 1}, do: two(func(a, b int64) int64 { return a | b })},
		api.Xor:    {stack: Change{2, 1}, do: two(func(a, b int64) int64 { return a ^ b })},
		api.Invert: {stack: Change{1, 1}, do: one(func(a int64) int64 { return ^a })},
		api.Negate: {stack: Change{1, 1}, do: one(func(a int64) int64 { return -a })},
		api.Equal:  {stack: Change{2, 1}, do: two(func(a, b int64) int64 { return flag(a == b) })},
		api.Less:   {stack: Change{2, 1}, do: two(func(a, b int64) int64 { return flag(a < b) })},
		api.Dup:    {stack: Change{1, 2}, do: order(0, 0)},
		api.Drop:   {stack: Change{1, 0}, do: order()},
		api.Swap:   {stack: Change{2, 2}, do: order(1, 0)},
		api.Over:   {stack: Change{2, 3}, do: order(0, 1, 0)},
		api.Rot:    {stack: Change{3, 3}, do: order(1, 2, 0)},
		api.Aside:  {Change{1, 0}, Change{0, 1}, (*machine).lay},
		api.Back:   {Change{0, 1}, Change{1, 0}, (*machine).back},
		api.Look:   {Change{0, 1}, Change{1, 1}, (*machine).look},
		api.Store:  {stack: Change{2, 0}, do: (*machine).store},
		api.Fetch:  {stack: Change{1, 1}, do: (*machine).fetch},
		api.Emit:   {stack: Change{1, 0}, do: (*machine).emit},
		api.Dot:    {stack: Change{1, 0}, do: (*machine).dot},
	}
}
