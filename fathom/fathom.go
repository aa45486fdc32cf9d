// Package fathom: a small language of words and a stack: see DOC.md.
package fathom

import (
	"slices"

	"fathom/api"
	"fathom/code"
	"fathom/compiler"
	"fathom/machine"
	"fathom/shorten"
)

// Code is a program that can be run.
type Code struct{ program code.Program }

// Compile makes code of a text; or what is wrong, and where (P3, P4).
func Compile(text string, o api.Options) (*Code, api.Errno, int) {
	p, e, at := compiler.Compile(text)
	if e != api.OK {
		return nil, e, at
	}
	return &Code{shorten.With(p, o)}, api.OK, 0
}

// Load makes code of instructions (P6).
func Load(l []api.Instr, entry int, cells int) (*Code, api.Errno) {
	p, e := code.Load(l, entry, cells)
	if e != api.OK {
		return nil, e
	}
	return &Code{p}, api.OK
}

// isNone tells whether there is no code: beside an error there is none, and its methods must not panic either.
func (c *Code) isNone() bool { return c == nil || len(c.program.List) == 0 }

// List tells the instructions, and at which one a run begins (P4, P5).
func (c *Code) List() ([]api.Instr, int) {
	if c.isNone() {
		return nil, 0
	}
	return slices.Clone(c.program.List), c.program.Entry
}

// Run runs code, for so many steps at most (P7, P8).
func (c *Code) Run(l api.Limits, fuel int) api.Outcome {
	if c.isNone() {
		return api.Outcome{Err: api.ErrCode}
	}
	return machine.NewTable().Run(c.program, l, fuel)
}
