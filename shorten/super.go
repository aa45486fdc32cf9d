package shorten

import (
	"fathom/api"
	"fathom/code"
)

// super lets each block have as few instructions as it can.
func super(p code.Program) code.Program {
	l := blocksOf(p)
	for i := range l {
		l[i].row = fewest(l[i].row)
	}
	return joined(p, l)
}

// piece is an instruction that stands for so many in a row.
type piece struct {
	in    api.Instr
	parts int
}

// fewest goes from the row's end to its start: which piece is best ahead of the rest is known only when the rest is.
func fewest(row []api.Instr) []api.Instr {
	best := make([]piece, len(row))
	size := make([]int, len(row)+1)
	for i := len(row) - 1; i >= 0; i-- {
		best[i], size[i] = piece{row[i], 1}, size[i+1]+1
		for _, p := range piecesAt(row[i:]) {
			if n := size[i+p.parts] + 1; n < size[i] {
				best[i], size[i] = p, n
			}
		}
	}
	var l []api.Instr
	for i := 0; i < len(row); i += best[i].parts {
		l = append(l, best[i].in)
	}
	return l
}

// piecesAt answers each instruction that may stand for the first several of a row.
func piecesAt(row []api.Instr) []piece {
	var l []piece
	for op := api.LitAdd; op <= api.LastSuper; op++ {
		parts := code.Parts(op)
		if n, ok := numberOf(row, parts...); ok {
			l = append(l, piece{api.Instr{Op: op, Arg: n}, len(parts)})
		}
	}
	return l
}

// numberOf answers, of a row that begins with those operators, the number of the Lit among them; 0 if there is none.
func numberOf(row []api.Instr, parts ...int) (int64, bool) {
	if len(row) < len(parts) {
		return 0, false
	}
	n := int64(0)
	for i, op := range parts {
		if row[i].Op != op {
			return 0, false
		}
		if op == api.Lit {
			n = row[i].Arg
		}
	}
	return n, true
}
