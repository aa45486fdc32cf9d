// Package code: programs made of instructions, and what there is to know of operators without running them.
package code

import (
	"slices"

	"fathom/api"
)

// Program is what can be run: its instructions, the number of the one that a run begins with, how many cells it has.
type Program struct {
	List  []api.Instr
	Entry int
	Cells int
}

// Load makes a program of instructions that came from elsewhere, if they are one. The list stays the caller's.
func Load(l []api.Instr, entry, cells int) (Program, api.Errno) {
	if !hasShape(len(l), entry, cells) || !isSound(l) {
		return Program{}, api.ErrCode
	}
	return Program{slices.Clone(l), entry, cells}, api.OK
}

func hasShape(size, entry, cells int) bool {
	return size >= 1 && size <= api.MaxCode && entry >= 0 && entry < size && cells >= 0 && cells <= api.MaxCells
}

func isSound(l []api.Instr) bool {
	for _, in := range l {
		if !isOperator(in.Op) {
			return false
		}
		if NamesInstruction(in.Op) && (in.Arg < 0 || in.Arg >= int64(len(l))) {
			return false
		}
	}
	return !GoesOn(l[len(l)-1].Op)
}

func isOperator(op int) bool {
	return op >= api.Lit && op <= api.LastBase || op >= api.LitAdd && op <= api.LastSuper
}

// GoesOn tells whether a run may go on with what stands behind such an instruction, which the last one may not, as
// nothing does. (Behind a Call it may, by the Ret.)
func GoesOn(op int) bool { return op != api.Jump && op != api.Ret && op != api.Halt }

// NamesInstruction tells whether the number of such an instruction is that of an instruction.
func NamesInstruction(op int) bool {
	switch op {
	case api.Jump, api.Jumpz, api.Call, api.Loop:
		return true
	}
	return false
}
