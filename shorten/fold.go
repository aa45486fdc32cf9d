package shorten

import (
	"fathom/api"
	"fathom/code"
	"fathom/machine"
)

// longestRow is how many instructions are looked at together.
const longestRow = 6

type folder struct {
	table *machine.Table
	rules []rule
}

func newFolder() *folder {
	f := &folder{table: machine.NewTable()}
	f.rules = f.makeRules()
	return f
}

// fold goes on as long as it helps: a row that is gone may let blocks grow together, and what stands in them.
func fold(p code.Program) code.Program {
	f := newFolder()
	for {
		short := withoutIdleJumps(withoutUnreached(straightened(f.folded(p))))
		if len(short.List) == len(p.List) {
			return short
		}
		p = short
	}
}

func (f *folder) folded(p code.Program) code.Program {
	l := blocksOf(p)
	for i := range l {
		l[i].row = f.foldedRow(l[i].row)
	}
	return joined(p, l)
}

func (f *folder) foldedRow(row []api.Instr) []api.Instr {
	var done []api.Instr
	for i, in := range row {
		next := row[i+1 : min(i+2, len(row))]
		done = f.settled(append(done, in), next)
	}
	return done
}

// settled makes the end of a row shorter, again and again, while it can.
func (f *folder) settled(row, next []api.Instr) []api.Instr {
	for {
		short, size := f.shorter(row, next)
		if size == 0 {
			return row
		}
		row = append(row[:len(row)-size], short...)
	}
}

// shorter answers what may stand instead of the last so many instructions of a row; instead of 0, if there is nothing.
func (f *folder) shorter(row, next []api.Instr) ([]api.Instr, int) {
	for size := 2; size <= min(longestRow, len(row)); size++ {
		ahead, old := row[:len(row)-size], row[len(row)-size:]
		for _, rule := range f.rules {
			short, ok := rule(old)
			if ok && f.failsAlike(f.knownBehind(ahead), old, short, next) {
				return short, size
			}
		}
	}
	return nil, 0
}
