package shorten

import (
	"slices"

	"fathom/api"
	"fathom/code"
)

// straightened lets what names a Jump name that one's goal instead; a Jump to an end is that end itself.
func straightened(p code.Program) code.Program {
	p.List = slices.Clone(p.List)
	for i := range p.List {
		in := &p.List[i]
		if !code.NamesInstruction(in.Op) {
			continue
		}
		in.Arg = goal(p.List, in.Arg)
		end := p.List[in.Arg]
		if in.Op == api.Jump && (end.Op == api.Ret || end.Op == api.Halt) {
			*in = end
		}
	}
	return p
}

// goal goes no more jumps than there are instructions: if it is not there then, they go round without end, and each of
// them is as good as the others.
func goal(l []api.Instr, k int64) int64 {
	for range l {
		if l[k].Op != api.Jump {
			break
		}
		k = l[k].Arg
	}
	return k
}

func withoutUnreached(p code.Program) code.Program {
	l := blocksOf(p)
	reached := reachedIn(p)
	for i := range l {
		if !reached[l[i].first] {
			l[i].row = nil
		}
	}
	return joined(p, l)
}

// reachedIn tells of each instruction whether a run may come to it.
func reachedIn(p code.Program) []bool {
	reached := make([]bool, len(p.List))
	for ahead := []int{p.Entry}; len(ahead) > 0; {
		at := ahead[len(ahead)-1]
		ahead = ahead[:len(ahead)-1]
		if reached[at] {
			continue
		}
		reached[at] = true
		in := p.List[at]
		if code.NamesInstruction(in.Op) {
			ahead = append(ahead, int(in.Arg))
		}
		if code.GoesOn(in.Op) {
			ahead = append(ahead, at+1)
		}
	}
	return reached
}

// withoutIdleJumps leaves out each Jump to what comes next anyway.
func withoutIdleJumps(p code.Program) code.Program {
	l := blocksOf(p)
	for i, b := range l {
		last := len(b.row) - 1
		if b.row[last] == (api.Instr{Op: api.Jump, Arg: int64(b.first + len(b.row))}) {
			l[i].row = b.row[:last]
		}
	}
	return joined(p, l)
}
