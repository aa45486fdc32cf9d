// Package machine: runs programs.
package machine

import (
	"fathom/api"
	"fathom/code"
)

type machine struct {
	operators *Table
	limits    api.Limits
	list      []api.Instr
	at        int // the number of the instruction that comes next
	steps     int
	ended     bool
	stack     []int64
	aside     []int64
	calls     []int
	cells     []int64
	output    []byte
}

// Run runs a program by this table, for so many steps at most.
func (t *Table) Run(p code.Program, l api.Limits, fuel int) api.Outcome {
	if !areLimits(l.Stack, l.Aside, l.Calls, l.Output) {
		return api.Outcome{Err: api.ErrLimit}
	}
	m := newMachine(t, p, l)
	e := m.run(fuel)
	o := api.Outcome{Err: e, Output: string(m.output), Steps: m.steps}
	if e == api.OK {
		// They were this run's alone, and are its owner's now.
		o.Stack, o.Cells = m.stack, m.cells
	}
	return o
}

func areLimits(l ...int) bool {
	for _, n := range l {
		if n < 1 || n > api.MaxLimit {
			return false
		}
	}
	return true
}

func newMachine(t *Table, p code.Program, l api.Limits) *machine {
	return &machine{operators: t, limits: l, list: p.List, at: p.Entry, cells: make([]int64, p.Cells)}
}

func (m *machine) run(fuel int) api.Errno {
	for !m.ended {
		if m.steps >= fuel {
			return api.ErrFuel
		}
		in := m.list[m.at]
		m.at++
		m.steps++
		if e := m.do(in); e != api.OK {
			return e
		}
	}
	return api.OK
}

func (m *machine) do(in api.Instr) api.Errno {
	o := &m.operators[in.Op]
	if e := m.check(o); e != api.OK {
		return e
	}
	x := m.take(o.stack.Takes)
	e := o.do(m, in.Arg, x)
	if e != api.OK {
		// With an error nothing is done: nor are these taken.
		m.push(x[:o.stack.Takes]...)
	}
	return e
}

// check finds the errors that come ahead of those that an operator's function has.
func (m *machine) check(o *operator) api.Errno {
	switch {
	case o.stack.IsUnder(len(m.stack)):
		return api.ErrUnder
	case o.stack.IsOver(len(m.stack), m.limits.Stack):
		return api.ErrOver
	case o.aside.IsUnder(len(m.aside)):
		return api.ErrLow
	case o.aside.IsOver(len(m.aside), m.limits.Aside):
		return api.ErrHigh
	}
	return api.OK
}

func (m *machine) push(l ...int64) { m.stack = append(m.stack, l...) }

func (m *machine) take(n int) values {
	var x values
	rest := len(m.stack) - n
	copy(x[:], m.stack[rest:])
	m.stack = m.stack[:rest]
	return x
}

func (m *machine) putAside(l ...int64) { m.aside = append(m.aside, l...) }

func (m *machine) topAside() int64 { return m.aside[len(m.aside)-1] }

func (m *machine) dropAside(n int) { m.aside = m.aside[:len(m.aside)-n] }

func (m *machine) hasCell(k int64) bool { return k >= 0 && k < int64(len(m.cells)) }

// put lets all of the bytes out, or none.
func (m *machine) put(l ...byte) api.Errno {
	if len(m.output)+len(l) > m.limits.Output {
		return api.ErrOutput
	}
	m.output = append(m.output, l...)
	return api.OK
}
