// Package fathom: a small language of words and a stack: see DOC.md.
package fathom

import (
	"slices"

	"fathom/api"
	"fathom/compiler"
)

// Code is a program that can be run.
type Code struct {
	list  []api.Instr
	entry int
}

// Compile makes code of a text; or what is wrong, and where (P3, P4).
func Compile(text string, o api.Options) (*Code, api.Errno, int) {
	p, e, at := compiler.Compile(text)
	if e != api.OK {
		return nil, e, at
	}
	return &Code{list: p.List, entry: p.Entry}, api.OK, 0
}

// Load makes code of instructions (P6).
func Load(l []api.Instr, entry int, cells int) (*Code, api.Errno) { return nil, api.OK }

// List tells the instructions, and at which one a run begins (P4, P5).
func (c *Code) List() ([]api.Instr, int) {
	// Beside an error, Compile gives no code, and its methods must not panic either.
	if c == nil {
		return nil, 0
	}
	return slices.Clone(c.list), c.entry
}

// Run runs code, for so many steps at most (P7, P8).
func (c *Code) Run(l api.Limits, fuel int) api.Outcome { return api.Outcome{} }
