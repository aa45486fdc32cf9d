package machine

import (
	"slices"
	"testing"

	"fathom/api"
	"fathom/code"
)

// What an instruction leaves behind at an error is not told by Run, so that these tests look into the machine.

// made answers a machine whose limits leave room for one more of each, and which has two cells, at instruction 5.
func made(stack, aside []int64, calls []int) *machine {
	l := api.Limits{Stack: len(stack) + 1, Aside: len(aside) + 1, Calls: len(calls) + 1, Output: 2}
	m := newMachine(NewTable(), code.Program{Entry: 5, Cells: 2}, l)
	m.push(stack...)
	m.putAside(aside...)
	m.calls = slices.Clone(calls)
	m.output = []byte("o")
	m.cells[1] = 40
	return m
}

// full takes away the room that made has left.
func full(m *machine) *machine {
	m.limits = api.Limits{Stack: max(len(m.stack), 1), Aside: max(len(m.aside), 1), Calls: max(len(m.calls), 1), Output: 1}
	return m
}

func (m *machine) copied() *machine {
	c := *m
	c.stack, c.aside, c.calls = slices.Clone(m.stack), slices.Clone(m.aside), slices.Clone(m.calls)
	c.cells, c.output = slices.Clone(m.cells), slices.Clone(m.output)
	return &c
}

func (m *machine) same(o *machine) bool {
	return m.at == o.at && m.ended == o.ended && slices.Equal(m.stack, o.stack) && slices.Equal(m.aside, o.aside) &&
		slices.Equal(m.calls, o.calls) && slices.Equal(m.cells, o.cells) && slices.Equal(m.output, o.output)
}

func (m *machine) state() []any {
	return []any{m.at, m.ended, m.stack, m.aside, m.calls, m.cells, string(m.output)}
}

type row = []int64

func TestWithAnErrorNothingIsDone(t *testing.T) {
	for _, c := range []struct {
		m    *machine
		op   int
		want api.Errno
	}{
		{made(row{7}, nil, nil), api.Add, api.ErrUnder}, {made(row{7, 8}, nil, nil), api.Rot, api.ErrUnder},
		{made(nil, nil, nil), api.Jumpz, api.ErrUnder}, {made(row{7}, nil, nil), api.Do, api.ErrUnder},
		{full(made(row{7}, nil, nil)), api.Dup, api.ErrOver}, {full(made(row{7, 8}, nil, nil)), api.Over, api.ErrOver},
		{full(made(row{7, 8}, row{3}, nil)), api.Back, api.ErrOver}, {full(made(row{7}, row{3}, nil)), api.Look, api.ErrOver},
		{full(made(row{7}, nil, nil)), api.Lit, api.ErrOver},
		{made(row{7}, nil, nil), api.Back, api.ErrLow}, {made(row{7}, nil, nil), api.Index, api.ErrLow},
		{made(nil, row{9}, nil), api.Loop, api.ErrLow},
		{full(made(row{7}, row{9}, nil)), api.Aside, api.ErrHigh}, {full(made(row{7, 8}, row{9}, nil)), api.Do, api.ErrHigh},
		{made(row{7, 8}, row{9}, nil), api.Do, api.ErrHigh},
		{full(made(nil, nil, []int{3})), api.Call, api.ErrCalls}, {made(nil, nil, nil), api.Ret, api.ErrCalls},
		{made(row{7, 2}, nil, nil), api.Store, api.ErrAddr}, {made(row{7, -1}, nil, nil), api.Store, api.ErrAddr},
		{made(row{7, 2}, nil, nil), api.Fetch, api.ErrAddr},
		{made(row{7, 0}, nil, nil), api.Div, api.ErrDivide}, {made(row{7, 0}, nil, nil), api.Mod, api.ErrDivide},
		{full(made(row{7}, nil, nil)), api.Emit, api.ErrOutput}, {made(row{7}, nil, nil), api.Dot, api.ErrOutput},
	} {
		ahead := c.m.copied()
		if e := c.m.do(api.Instr{Op: c.op, Arg: 4}); e != c.want || !c.m.same(ahead) {
			t.Errorf("operator %d: %d, want %d: %v, ahead of it %v", c.op, e, c.want, c.m.state(), ahead.state())
		}
	}
}

func TestWhatPartsAheadOfAnErrorDidIsDone(t *testing.T) {
	for _, c := range []struct {
		on    row
		op    int
		want  api.Errno
		stack row
	}{
		{nil, api.LitAdd, api.ErrUnder, row{4}}, {nil, api.LitSub, api.ErrUnder, row{4}}, {nil, api.LitMul, api.ErrUnder, row{4}},
		{nil, api.LitLess, api.ErrUnder, row{4}}, {row{7}, api.LitFetch, api.ErrAddr, row{7, 4}}, {row{7}, api.LitStore, api.ErrAddr, row{7, 4}},
		{nil, api.LitAddFetch, api.ErrUnder, row{4}}, {row{7}, api.LitAddFetch, api.ErrAddr, row{11}}, {row{7}, api.DupFetch, api.ErrAddr, row{7, 7}},
		{row{7}, api.DupDup, api.ErrOver, row{7, 7}}, {row{7}, api.DupOver, api.ErrOver, row{7, 7}}, {row{7}, api.DupLitEqual, api.ErrOver, row{7, 7}},
		{row{7}, api.DropDrop, api.ErrUnder, nil}, {row{7}, api.DropDup, api.ErrUnder, nil},
		{row{7, 8}, api.OverOver, api.ErrOver, row{7, 8, 7}}, {row{7, 8}, api.OverOverLess, api.ErrOver, row{7, 8, 7}},
		{row{1}, api.FetchAdd, api.ErrUnder, row{40}}, {row{5}, api.FetchAdd, api.ErrAddr, row{5}},
		{nil, api.DupMul, api.ErrUnder, nil}, {row{7}, api.SwapDrop, api.ErrUnder, row{7}}, {row{7}, api.SwapOver, api.ErrUnder, row{7}}, {row{7}, api.OverAdd, api.ErrUnder, row{7}},
	} {
		m := made(c.on, nil, nil)
		if e := m.do(api.Instr{Op: c.op, Arg: 4}); e != c.want || !slices.Equal(m.stack, c.stack) {
			t.Errorf("operator %d on %v: %d, %v, want %d, %v", c.op, c.on, e, m.stack, c.want, c.stack)
		}
	}
	// The first part of SwapOver turns two values, the second has no room.
	m := full(made(row{7, 8}, nil, nil))
	if e := m.do(api.Instr{Op: api.SwapOver}); e != api.ErrOver || !slices.Equal(m.stack, row{8, 7}) {
		t.Errorf("SwapOver: %d, %v", e, m.stack)
	}
}

// rows answers every row of up to so many of the values.
func rows(length int, of ...int64) []row {
	all := []row{nil}
	for from := 0; length > 0; length-- {
		ahead := all[from:]
		from = len(all)
		for _, r := range ahead {
			for _, n := range of {
				all = append(all, append(slices.Clone(r), n))
			}
		}
	}
	return all
}

func TestOneThatStandsForSeveralDoesWhatItsPartsDo(t *testing.T) {
	for op := api.LitAdd; op <= api.LastSuper; op++ {
		for _, stack := range rows(4, -1, 0, 1, 2) {
			for limit := max(len(stack), 1); limit <= len(stack)+3; limit++ {
				m := made(stack, nil, nil)
				m.limits.Stack = limit
				n := int64(limit - 3)
				parted := m.copied()
				var want api.Errno
				for _, part := range code.Parts(op) {
					if want == api.OK {
						want = parted.do(api.Instr{Op: part, Arg: n})
					}
				}
				if e := m.do(api.Instr{Op: op, Arg: n}); e != want || !m.same(parted) {
					t.Fatalf("operator %d with %d on %v, limit %d: %d, %v, want %d, %v", op, n, stack, limit, e, m.state(), want, parted.state())
				}
			}
		}
	}
}

func TestTheTableHasEachOperator(t *testing.T) {
	operators := NewTable()
	for op := range operators {
		is := op <= api.LastBase || op >= api.LitAdd
		if (operators[op].do != nil) != is {
			t.Errorf("operator %d: a function %v", op, !is)
		}
	}
}

func TestTheTableTellsWhatEachTakesAndGives(t *testing.T) {
	operators := NewTable()
	for op := range api.LastBase + 1 {
		m := made(row{1, 1, 1, 1}, row{9, 1, 1}, []int{3})
		m.limits = api.Limits{Stack: 9, Aside: 9, Calls: 9, Output: 9}
		if e := m.do(api.Instr{Op: op, Arg: 1}); e != api.OK {
			t.Errorf("operator %d: %d", op, e)
		}
		o := operators[op]
		stack, aside := 4-o.stack.Takes+o.stack.Gives, 3-o.aside.Takes+o.aside.Gives
		if len(m.stack) != stack || len(m.aside) != aside {
			t.Errorf("operator %d: %d on the stack and %d aside, but by the table %d and %d", op, len(m.stack), len(m.aside), stack, aside)
		}
		if c := operators.Change(op); c != o.stack {
			t.Errorf("operator %d: %v, want %v", op, c, o.stack)
		}
	}
}

func TestOneTableServesManyRuns(t *testing.T) {
	operators := NewTable()
	p := code.Program{List: []api.Instr{{Op: api.Lit, Arg: 3}, {Op: api.LitAdd, Arg: 4}, {Op: api.Halt}}}
	first := operators.Run(p, api.Limits{Stack: 2, Aside: 1, Calls: 1, Output: 1}, 9)
	operators.Run(p, api.Limits{Stack: 1, Aside: 1, Calls: 1, Output: 1}, 9)
	second := operators.Run(p, api.Limits{Stack: 2, Aside: 1, Calls: 1, Output: 1}, 9)
	first.Stack[0] = 99
	if second.Err != api.OK || !slices.Equal(second.Stack, row{7}) {
		t.Errorf("%v", second)
	}
}
