package shorten

import (
	"fathom/api"
	"fathom/machine"
)

// known is what is known of the stack at a place that a run comes to: it has so many values at least, and at least so
// much room for more. Whatever an instruction ahead took was there, and whatever it gave had room: or the run would have
// ended with an error.
type known struct{ values, room int }

func (f *folder) knownBehind(row []api.Instr) known {
	var k known
	for _, in := range row {
		c := f.table.Change(in.Op)
		growth := c.Gives - c.Takes
		k = known{max(k.values, c.Takes) + growth, max(k.room, growth) - growth}
	}
	return k
}

// failsAlike tells whether a shorter row has, with what comes next behind it, the same error as the old one, or none,
// in no more steps, on every stack of which that is known. What comes next counts, as it may ask for the same values
// or room that the old row asks for; what it has for errors beside these comes behind them.
func (f *folder) failsAlike(k known, old, short, next []api.Instr) bool {
	before, after := f.changesOf(old, next), f.changesOf(short, next)
	// No operator takes or gives more than three: beyond so many values, or so much room, nothing is another.
	most := 3 * len(before)
	for values := k.values; values <= k.values+most; values++ {
		for room := k.room; room <= k.room+most; room++ {
			if !isAlike(before, after, values, values+room) {
				return false
			}
		}
	}
	return true
}

func (f *folder) changesOf(rows ...[]api.Instr) []machine.Change {
	var l []machine.Change
	for _, row := range rows {
		for _, in := range row {
			l = append(l, f.table.Change(in.Op))
		}
	}
	return l
}

func isAlike(before, after []machine.Change, values, limit int) bool {
	e, steps := failure(before, values, limit)
	e2, steps2 := failure(after, values, limit)
	return e == e2 && steps2 <= steps
}

// failure answers the error that a row has on a stack of so many values with that limit, and how many steps are run.
func failure(row []machine.Change, values, limit int) (api.Errno, int) {
	for i, c := range row {
		switch {
		case c.IsUnder(values):
			return api.ErrUnder, i + 1
		case c.IsOver(values, limit):
			return api.ErrOver, i + 1
		}
		values += c.Gives - c.Takes
	}
	return api.OK, len(row)
}
