package shorten

import (
	"slices"

	"fathom/api"
	"fathom/code"
)

// rule answers a shorter row that does the same as a whole row, if it knows one: the same where neither has an error.
// Whether they fail alike is asked elsewhere.
type rule func(row []api.Instr) ([]api.Instr, bool)

func (f *folder) makeRules() []rule {
	return []rule{
		f.reckoned,
		f.chained,
		decided,
		is(ops(api.Swap, api.Swap)),
		is(ops(api.Rot, api.Rot, api.Rot)),
		is(ops(api.Invert, api.Invert)),
		is(ops(api.Negate, api.Negate)),
		is(ops(api.Dup, api.Drop)),
		is(ops(api.Over, api.Drop)),
		is(ops(api.Dup, api.Swap), api.Dup),
		is(ops(api.Negate, api.Add), api.Sub),
		is(ops(api.Negate, api.Sub), api.Add),
		is(ops(api.Swap, api.Add), api.Add),
		is(ops(api.Swap, api.Mul), api.Mul),
		is(ops(api.Swap, api.And), api.And),
		is(ops(api.Swap, api.Or), api.Or),
		is(ops(api.Swap, api.Xor), api.Xor),
		is(ops(api.Swap, api.Equal), api.Equal),
		is(litAnd(0, api.Add)),
		is(litAnd(0, api.Sub)),
		is(litAnd(1, api.Mul)),
		is(litAnd(1, api.Div)),
		is(litAnd(-1, api.And)),
		is(litAnd(0, api.Or)),
		is(litAnd(0, api.Xor)),
	}
}

// is makes the rule that those operators stand for just that row.
func is(row []api.Instr, short ...int) rule {
	return func(l []api.Instr) ([]api.Instr, bool) {
		if !slices.Equal(l, row) {
			return nil, false
		}
		return ops(short...), true
	}
}

// reckoned lets a row that hangs on no values but its own be the values that it leaves: the machine itself runs it.
func (f *folder) reckoned(row []api.Instr) ([]api.Instr, bool) {
	if row[0].Op != api.Lit || !areReckoning(row...) {
		return nil, false
	}
	p := code.Program{List: slices.Concat(row, ops(api.Halt))}
	wide := api.Limits{Stack: api.MaxLimit, Aside: api.MaxLimit, Calls: api.MaxLimit, Output: api.MaxLimit}
	o := f.table.Run(p, wide, len(p.List))
	if o.Err != api.OK || len(o.Stack) >= len(row) {
		return nil, false
	}
	return lits(o.Stack...), true
}

// areReckoning tells whether instructions have to do with the stack alone.
func areReckoning(row ...api.Instr) bool {
	for _, in := range row {
		if in.Op != api.Lit && (in.Op < api.Add || in.Op > api.Rot) {
			return false
		}
	}
	return true
}

// chained lets two reckonings in turn, each with a number, be one.
func (f *folder) chained(row []api.Instr) ([]api.Instr, bool) {
	if len(row) != 4 || row[0].Op != api.Lit || row[2].Op != api.Lit {
		return nil, false
	}
	join, op, ok := link(row[1].Op, row[3].Op)
	if !ok {
		return nil, false
	}
	n, ok := f.reckoned(slices.Concat(lits(row[0].Arg, row[2].Arg), ops(join)))
	if !ok {
		return nil, false
	}
	return append(n, ops(op)...), true
}

// link answers by which operator the numbers of two others in turn are joined, and which operator is left.
func link(first, second int) (join, op int, ok bool) {
	switch {
	case first == api.Sub && second == api.Sub:
		return api.Add, api.Sub, true
	case first == api.Sub && second == api.Add, first == api.Add && second == api.Sub:
		return api.Sub, first, true
	case first != second:
		return 0, 0, false
	}
	switch first {
	case api.Add, api.Mul, api.And, api.Or, api.Xor:
		return first, first, true
	}
	return 0, 0, false
}

// decided lets a Jumpz whose value is known be a Jump, or nothing.
func decided(row []api.Instr) ([]api.Instr, bool) {
	if len(row) != 2 || row[0].Op != api.Lit || row[1].Op != api.Jumpz {
		return nil, false
	}
	if row[0].Arg != 0 {
		return nil, true
	}
	return []api.Instr{{Op: api.Jump, Arg: row[1].Arg}}, true
}

func ops(l ...int) []api.Instr {
	row := make([]api.Instr, len(l))
	for i, op := range l {
		row[i].Op = op
	}
	return row
}

func lits(l ...int64) []api.Instr {
	row := make([]api.Instr, len(l))
	for i, n := range l {
		row[i] = api.Instr{Op: api.Lit, Arg: n}
	}
	return row
}

func litAnd(n int64, l ...int) []api.Instr { return append(lits(n), ops(l...)...) }
