package fathom

import (
	"math/big"
	"slices"
	"strconv"
	"testing"

	"fathom/api"
)

// model is the document's machine written a second time, for tests: slow, each instruction on a copy of it all, every
// error that applies gathered and the one named first taken, reckoning done by big numbers.
type model struct {
	stack, aside []int64
	calls        []int
	cells        []int64
	output       string
	at           int
	ended        bool
}

// needs: what an operator takes from the stack, by how many it grows then; how many must lie aside, by how many that grows.
var needs = map[int][4]int{
	api.Lit: {0, 1}, api.Jumpz: {1, -1}, api.Do: {2, -2, 0, 2}, api.Loop: {0, 0, 2}, api.Index: {0, 1, 1}, api.Look: {0, 1, 1},
	api.Add: {2, -1}, api.Sub: {2, -1}, api.Mul: {2, -1}, api.Div: {2, -1}, api.Mod: {2, -1}, api.And: {2, -1}, api.Or: {2, -1},
	api.Xor: {2, -1}, api.Equal: {2, -1}, api.Less: {2, -1}, api.Invert: {1, 0}, api.Negate: {1, 0}, api.Dup: {1, 1},
	api.Drop: {1, -1}, api.Swap: {2, 0}, api.Over: {2, 1}, api.Rot: {3, 0}, api.Aside: {1, -1, 0, 1}, api.Back: {0, 1, 1, -1},
	api.Store: {2, -2}, api.Fetch: {1, 0}, api.Emit: {1, -1}, api.Dot: {1, -1}, api.Jump: {}, api.Call: {}, api.Ret: {}, api.Halt: {},
}

var several = map[int][]int{
	api.LitAdd: {api.Lit, api.Add}, api.LitSub: {api.Lit, api.Sub}, api.LitMul: {api.Lit, api.Mul}, api.LitLess: {api.Lit, api.Less},
	api.LitFetch: {api.Lit, api.Fetch}, api.LitStore: {api.Lit, api.Store}, api.LitAddFetch: {api.Lit, api.Add, api.Fetch},
	api.DupFetch: {api.Dup, api.Fetch}, api.DupMul: {api.Dup, api.Mul}, api.DupDup: {api.Dup, api.Dup}, api.DupOver: {api.Dup, api.Over},
	api.DupLitEqual: {api.Dup, api.Lit, api.Equal}, api.DropDrop: {api.Drop, api.Drop}, api.DropDup: {api.Drop, api.Dup},
	api.SwapDrop: {api.Swap, api.Drop}, api.SwapOver: {api.Swap, api.Over}, api.OverOver: {api.Over, api.Over},
	api.OverAdd: {api.Over, api.Add}, api.OverOverLess: {api.Over, api.Over, api.Less}, api.FetchAdd: {api.Fetch, api.Add},
}

func (m *model) copied() model {
	c := *m
	c.stack, c.aside, c.calls, c.cells = slices.Clone(m.stack), slices.Clone(m.aside), slices.Clone(m.calls), slices.Clone(m.cells)
	return c
}

// top answers the value that lies so many below the stack's top; 0 if there is none, as ErrUnder is told then anyway.
func (m *model) top(below int) int64 {
	if at := len(m.stack) - 1 - below; at >= 0 {
		return m.stack[at]
	}
	return 0
}

// fault answers the error that an instruction, one of the base, has here.
func (m *model) fault(in api.Instr, l api.Limits) api.Errno {
	n := needs[in.Op]
	noCell := m.top(0) < 0 || m.top(0) >= int64(len(m.cells))
	written := 1
	if in.Op == api.Dot {
		written = len(strconv.FormatInt(m.top(0), 10)) + 1
	}
	first := api.OK
	for e, applies := range map[api.Errno]bool{
		api.ErrUnder:  len(m.stack) < n[0],
		api.ErrOver:   len(m.stack)+n[1] > l.Stack,
		api.ErrLow:    len(m.aside) < n[2],
		api.ErrHigh:   len(m.aside)+n[3] > l.Aside,
		api.ErrCalls:  in.Op == api.Call && len(m.calls)+1 > l.Calls || in.Op == api.Ret && len(m.calls) == 0,
		api.ErrAddr:   (in.Op == api.Store || in.Op == api.Fetch) && noCell,
		api.ErrDivide: (in.Op == api.Div || in.Op == api.Mod) && m.top(0) == 0,
		api.ErrOutput: (in.Op == api.Emit || in.Op == api.Dot) && len(m.output)+written > l.Output,
	} {
		if applies && (first == api.OK || e < first) {
			first = e
		}
	}
	return first
}

func round(n *big.Int) int64 {
	whole := new(big.Int).Lsh(big.NewInt(1), 64)
	return int64(new(big.Int).Mod(n, whole).Uint64())
}

func reckoned(op int, a, b int64) int64 {
	x, y, z := big.NewInt(a), big.NewInt(b), new(big.Int)
	switch op {
	case api.Add:
		z.Add(x, y)
	case api.Sub:
		z.Sub(x, y)
	case api.Mul:
		z.Mul(x, y)
	case api.And:
		z.And(x, y)
	case api.Or:
		z.Or(x, y)
	case api.Xor:
		z.Xor(x, y)
	case api.Equal:
		z.SetInt64(-int64(max(0, 1-x.Cmp(y)*x.Cmp(y))))
	case api.Less:
		z.SetInt64(int64(min(0, x.Cmp(y))))
	case api.Div, api.Mod:
		// What is rounded down leaves the rest that has the divisor's sign.
		rest := new(big.Int)
		z.DivMod(x, y, rest)
		if rest.Sign() != 0 && y.Sign() < 0 {
			z.Sub(z, big.NewInt(1))
			rest.Add(rest, y)
		}
		if op == api.Mod {
			z = rest
		}
	}
	return round(z)
}

// turned: which values of the stack, counted from the top, are left there instead of those that were taken.
var turned = map[int][]int{
	api.Dup: {0, 0}, api.Drop: {}, api.Swap: {0, 1}, api.Over: {1, 0, 1}, api.Rot: {1, 0, 2},
}

// done does an instruction of the base that has no error.
func (m *model) done(in api.Instr) {
	a, b := m.top(1), m.top(0)
	rest := m.stack[:len(m.stack)-needs[in.Op][0]]
	last := len(m.aside) - 1
	m.at++
	switch in.Op {
	case api.Dup, api.Drop, api.Swap, api.Over, api.Rot:
		var l []int64
		for _, below := range turned[in.Op] {
			l = append(l, m.top(below))
		}
		m.stack = append(rest, l...)
	case api.Lit:
		m.stack = append(rest, in.Arg)
	case api.Invert:
		m.stack = append(rest, -1-b)
	case api.Negate:
		m.stack = append(rest, reckoned(api.Sub, 0, b))
	case api.Index, api.Look:
		m.stack = append(rest, m.aside[last])
	case api.Back:
		m.stack, m.aside = append(rest, m.aside[last]), m.aside[:last]
	case api.Fetch:
		m.stack = append(rest, m.cells[b])
	case api.Store:
		m.stack, m.cells[b] = rest, a
	case api.Aside:
		m.stack, m.aside = rest, append(m.aside, b)
	case api.Do:
		m.stack, m.aside = rest, append(m.aside, a, b)
	case api.Emit:
		m.stack, m.output = rest, m.output+string([]byte{byte(uint64(b) % 256)})
	case api.Dot:
		m.stack, m.output = rest, m.output+strconv.FormatInt(b, 10)+" "
	case api.Jump, api.Jumpz, api.Call, api.Ret, api.Halt, api.Loop:
		m.stack = rest
		m.gone(in, b)
	default:
		m.stack = append(rest, reckoned(in.Op, a, b))
	}
}

// gone does what an instruction does to the order in which they are run.
func (m *model) gone(in api.Instr, taken int64) {
	last := len(m.aside) - 1
	goes := in.Op == api.Jump || in.Op == api.Call || in.Op == api.Jumpz && taken == 0
	switch in.Op {
	case api.Halt:
		m.ended = true
	case api.Call:
		m.calls = append(m.calls, m.at)
	case api.Ret:
		m.at = m.calls[len(m.calls)-1]
		m.calls = m.calls[:len(m.calls)-1]
	case api.Loop:
		m.aside[last] = reckoned(api.Add, m.aside[last], 1)
		goes = m.aside[last] != m.aside[last-1]
		if !goes {
			m.aside = m.aside[:last-1]
		}
	}
	if goes {
		m.at = int(in.Arg)
	}
}

// step does a whole instruction and answers its error.
func (m *model) step(in api.Instr, l api.Limits) api.Errno {
	parts := several[in.Op]
	if parts == nil {
		parts = []int{in.Op}
	}
	next := m.copied()
	for _, op := range parts {
		part := api.Instr{Op: op, Arg: in.Arg}
		if e := next.fault(part, l); e != api.OK {
			return e
		}
		next.done(part)
	}
	if len(parts) > 1 {
		next.at = m.at + 1
	}
	*m = next
	return api.OK
}

// modelled answers what a run must come to, if its limits are some.
func modelled(list instrs, entry, cells int, l api.Limits, fuel int) api.Outcome {
	m := model{at: entry, cells: make([]int64, cells)}
	steps := 0
	for !m.ended {
		if steps >= fuel {
			return api.Outcome{Err: api.ErrFuel, Output: m.output, Steps: steps}
		}
		steps++
		if e := m.step(list[m.at], l); e != api.OK {
			return api.Outcome{Err: e, Output: m.output, Steps: steps}
		}
	}
	return api.Outcome{Stack: m.stack, Cells: m.cells, Output: m.output, Steps: steps}
}

func sameOutcome(a, b api.Outcome) bool {
	return a.Err == b.Err && slices.Equal(a.Stack, b.Stack) && slices.Equal(a.Cells, b.Cells) && a.Output == b.Output && a.Steps == b.Steps
}

// checkModelled holds a run of loaded code against the model.
func checkModelled(t *testing.T, list instrs, entry, cells int, l api.Limits, fuel int) api.Outcome {
	t.Helper()
	c, e := Load(list, entry, cells)
	if c == nil || e != api.OK {
		t.Fatalf("P6: Load(%s, %d, %d): code %v, %d", brief(list), entry, cells, c != nil, e)
	}
	o := c.Run(l, fuel)
	if want := modelled(list, entry, cells, l, fuel); !sameOutcome(o, want) {
		t.Fatalf("P7: %s from %d, %d cells, %v, fuel %d: %v, want %v", brief(list), entry, cells, l, fuel, o, want)
	}
	return o
}
