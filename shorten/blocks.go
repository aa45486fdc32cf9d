package shorten

import (
	"fathom/api"
	"fathom/code"
)

// block is a row of instructions that a run comes to at its first one only.
type block struct {
	first int // its number in the program that it is of
	row   []api.Instr
}

func blocksOf(p code.Program) []block {
	var l []block
	begins := beginnings(p)
	for i := range p.List {
		if begins[i] {
			l = append(l, block{first: i})
		}
		b := &l[len(l)-1]
		b.row = append(b.row, p.List[i])
	}
	return l
}

// beginnings tells of each instruction whether a block begins with it. A definition's first one is number 0 or stands
// behind the Ret of another.
func beginnings(p code.Program) []bool {
	begins := make([]bool, len(p.List)+1)
	begins[0], begins[p.Entry] = true, true
	for i, in := range p.List {
		if code.NamesInstruction(in.Op) {
			begins[in.Arg] = true
		}
		if code.NamesInstruction(in.Op) || !code.GoesOn(in.Op) {
			begins[i+1] = true
		}
	}
	return begins
}

// joined answers the program that has these blocks, whose rows may be others now, instead of its own. What names an
// instruction names the first one of a block, or, where that has none any more, what comes behind it.
func joined(p code.Program, l []block) code.Program {
	numbers := make([]int, len(p.List))
	size := 0
	for _, b := range l {
		numbers[b.first] = size
		size += len(b.row)
	}
	list := make([]api.Instr, 0, size)
	for _, b := range l {
		list = append(list, renamed(numbers, b.row...)...)
	}
	return code.Program{List: list, Entry: numbers[p.Entry], Cells: p.Cells}
}

func renamed(numbers []int, row ...api.Instr) []api.Instr {
	l := make([]api.Instr, len(row))
	for i, in := range row {
		if code.NamesInstruction(in.Op) {
			in.Arg = int64(numbers[in.Arg])
		}
		l[i] = in
	}
	return l
}
