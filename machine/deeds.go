package machine

import (
	"strconv"

	"fathom/api"
)

// one does what gives a value of one value.
func one(f func(a int64) int64) func(*machine, int64, values) api.Errno {
	return func(m *machine, _ int64, x values) api.Errno {
		m.push(f(x[0]))
		return api.OK
	}
}

// two does what gives a value of two values.
func two(f func(a, b int64) int64) func(*machine, int64, values) api.Errno {
	return func(m *machine, _ int64, x values) api.Errno {
		m.push(f(x[0], x[1]))
		return api.OK
	}
}

// divided is two for what has no value where b is 0.
func divided(f func(a, b int64) int64) func(*machine, int64, values) api.Errno {
	divide := two(f)
	return func(m *machine, n int64, x values) api.Errno {
		if x[1] == 0 {
			return api.ErrDivide
		}
		return divide(m, n, x)
	}
}

// order gives those of the values that were taken, by their places.
func order(places ...int) func(*machine, int64, values) api.Errno {
	return func(m *machine, _ int64, x values) api.Errno {
		for _, p := range places {
			m.push(x[p])
		}
		return api.OK
	}
}

// inTurn does other operators one after the other; the number is handed to each, as only a Lit among them asks for it.
func inTurn(parts ...int) func(*machine, int64, values) api.Errno {
	return func(m *machine, n int64, _ values) api.Errno {
		for _, op := range parts {
			if e := m.do(api.Instr{Op: op, Arg: n}); e != api.OK {
				return e
			}
		}
		return api.OK
	}
}

func flag(is bool) int64 {
	if is {
		return -1
	}
	return 0
}

// Go rounds quotients towards 0; where that is up, both results are one divisor off.
func roundsUp(a, b int64) bool {
	r := a % b
	return r != 0 && (r < 0) != (b < 0)
}

func quotient(a, b int64) int64 {
	if roundsUp(a, b) {
		return a/b - 1
	}
	return a / b
}

func rest(a, b int64) int64 {
	if roundsUp(a, b) {
		return a%b + b
	}
	return a % b
}

func (m *machine) lit(n int64, _ values) api.Errno {
	m.push(n)
	return api.OK
}

func (m *machine) jump(k int64, _ values) api.Errno {
	m.at = int(k)
	return api.OK
}

func (m *machine) jumpz(k int64, x values) api.Errno {
	if x[0] == 0 {
		m.at = int(k)
	}
	return api.OK
}

func (m *machine) call(k int64, _ values) api.Errno {
	if len(m.calls) >= m.limits.Calls {
		return api.ErrCalls
	}
	m.calls = append(m.calls, m.at)
	m.at = int(k)
	return api.OK
}

func (m *machine) ret(int64, values) api.Errno {
	last := len(m.calls) - 1
	if last < 0 {
		return api.ErrCalls
	}
	m.at = m.calls[last]
	m.calls = m.calls[:last]
	return api.OK
}

func (m *machine) halt(int64, values) api.Errno {
	m.ended = true
	return api.OK
}

func (m *machine) begin(_ int64, x values) api.Errno {
	m.putAside(x[0], x[1])
	return api.OK
}

func (m *machine) loop(k int64, _ values) api.Errno {
	top := len(m.aside) - 1
	m.aside[top]++
	if m.aside[top] == m.aside[top-1] {
		m.dropAside(2)
	} else {
		m.at = int(k)
	}
	return api.OK
}

func (m *machine) look(int64, values) api.Errno {
	m.push(m.topAside())
	return api.OK
}

func (m *machine) lay(_ int64, x values) api.Errno {
	m.putAside(x[0])
	return api.OK
}

func (m *machine) back(int64, values) api.Errno {
	m.push(m.topAside())
	m.dropAside(1)
	return api.OK
}

func (m *machine) store(_ int64, x values) api.Errno {
	a, k := x[0], x[1]
	if !m.hasCell(k) {
		return api.ErrAddr
	}
	m.cells[k] = a
	return api.OK
}

func (m *machine) fetch(_ int64, x values) api.Errno {
	k := x[0]
	if !m.hasCell(k) {
		return api.ErrAddr
	}
	m.push(m.cells[k])
	return api.OK
}

func (m *machine) emit(_ int64, x values) api.Errno { return m.put(byte(x[0])) }

func (m *machine) dot(_ int64, x values) api.Errno {
	return m.put(append(strconv.AppendInt(nil, x[0], 10), 32)...)
}
