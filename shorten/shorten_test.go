package shorten

import (
	"slices"
	"testing"

	"fathom/api"
	"fathom/code"
	"fathom/compiler"
	"fathom/machine"
)

type instrs = []api.Instr

func op(n int) api.Instr { return api.Instr{Op: n} }

func to(n int, k int64) api.Instr { return api.Instr{Op: n, Arg: k} }

func lit(n int64) api.Instr { return to(api.Lit, n) }

var halt, ret = op(api.Halt), op(api.Ret)

var wide = api.Limits{Stack: 1000, Aside: 1000, Calls: 1000, Output: 1000}

func compiled(t *testing.T, text string) code.Program {
	t.Helper()
	p, e, at := compiler.Compile(text)
	if e != api.OK {
		t.Fatalf("%q: %d at %d", text, e, at)
	}
	return p
}

type listing struct {
	text  string
	list  instrs
	entry int
}

// checkFolded asks for the code that a text has with Fold.
func checkFolded(t *testing.T, l ...listing) {
	t.Helper()
	for _, c := range l {
		if p := With(compiled(t, c.text), api.Options{Fold: true}); !slices.Equal(p.List, c.list) || p.Entry != c.entry {
			t.Errorf("%q: %v, %d, want %v, %d", c.text, p.List, p.Entry, c.list, c.entry)
		}
	}
}

func TestWithoutOptionsNothingChanges(t *testing.T) {
	p := compiled(t, ": a 1 2 + recurse ; variable x 1 2 + . 0 if a then")
	if got := With(p, api.Options{}); !slices.Equal(got.List, p.List) || got.Entry != p.Entry || got.Cells != 1 {
		t.Errorf("%v, want %v", got, p)
	}
}

func TestWhatIsHandedInStays(t *testing.T) {
	p := compiled(t, ": a 1 ; : b 2 a ; variable x 1 2 + . 0 if a else b then begin 1 while 3 drop repeat")
	list := slices.Clone(p.List)
	for n := range 8 {
		got := With(p, api.Options{Fold: n&1 > 0, Tail: n&2 > 0, Super: n&4 > 0})
		if !slices.Equal(p.List, list) || got.Cells != 1 {
			t.Errorf("options %d: %v, %d cells", n, p.List, got.Cells)
		}
	}
}

func TestBlocks(t *testing.T) {
	p := compiled(t, ": a 1 if 2 else 3 then ; : b ; 4 begin 5 until do i loop a 6")
	var rows [][]api.Instr
	for _, b := range blocksOf(p) {
		if !slices.Equal(p.List[b.first:b.first+len(b.row)], b.row) {
			t.Errorf("block at %d: %v", b.first, b.row)
		}
		rows = append(rows, b.row)
	}
	want := [][]api.Instr{
		{lit(1), to(api.Jumpz, 4)}, {lit(2), to(api.Jump, 5)}, {lit(3)}, {ret}, {ret},
		{lit(4)}, {lit(5), to(api.Jumpz, 8)}, {op(api.Do)}, {op(api.Index), to(api.Loop, 11)}, {to(api.Call, 0)}, {lit(6), halt},
	}
	if !slices.EqualFunc(rows, want, slices.Equal[instrs]) {
		t.Errorf("%v, want %v", rows, want)
	}
	if same := joined(p, blocksOf(p)); !slices.Equal(same.List, p.List) || same.Entry != p.Entry {
		t.Errorf("joined again: %v, want %v", same, p)
	}
}

// An entry begins a block though it stands behind nothing that ends one.
func TestTheEntryBeginsABlock(t *testing.T) {
	p := code.Program{List: instrs{op(api.Dup), op(api.Dup), halt}, Entry: 1}
	if got := super(p); !slices.Equal(got.List, p.List) || got.Entry != 1 {
		t.Errorf("%v", got)
	}
}

func TestNumbersAreReckonedAhead(t *testing.T) {
	dot := op(api.Dot)
	checkFolded(t,
		// There is room for what is reckoned if what comes next needs it, or if it was there ahead.
		listing{"1 2 +", instrs{lit(1), lit(2), op(api.Add), halt}, 0},
		listing{"1 2 + 4", instrs{lit(3), lit(4), halt}, 0},
		listing{"1 2 + dup", instrs{lit(3), op(api.Dup), halt}, 0},
		listing{"1 2 + r@", instrs{lit(3), op(api.Look), halt}, 0},
		listing{"1 2 + .", instrs{lit(1), lit(2), op(api.Add), dot, halt}, 0},
		listing{"1 2 + over", instrs{lit(1), lit(2), op(api.Add), op(api.Over), halt}, 0},
		listing{"9 1 2 + over", instrs{lit(9), lit(3), op(api.Over), halt}, 0},
		listing{"1 2 + 3 + 4 + 5", instrs{lit(10), lit(5), halt}, 0},
		listing{"9 9 . . 1 2 + .", instrs{lit(9), lit(9), dot, dot, lit(3), dot, halt}, 0},
		listing{"9 9 . . 1 2 3 + + .", instrs{lit(9), lit(9), dot, dot, lit(1), lit(2), lit(3), op(api.Add), op(api.Add), dot, halt}, 0},
		listing{"9 9 9 . . . 1 2 3 + + .", instrs{lit(9), lit(9), lit(9), dot, dot, dot, lit(6), dot, halt}, 0},
		listing{"5 negate invert", instrs{lit(4), halt}, 0},
		listing{"1 2 swap", instrs{lit(2), lit(1), halt}, 0},
		listing{"1 2 3 rot", instrs{lit(2), lit(3), lit(1), halt}, 0},
		listing{". 5 drop .", instrs{dot, dot, halt}, 0},
		listing{"9 9 . . 3 dup * .", instrs{lit(9), lit(9), dot, dot, lit(9), dot, halt}, 0},
		listing{"9 9 . . 5 0 / .", instrs{lit(9), lit(9), dot, dot, lit(5), lit(0), op(api.Div), dot, halt}, 0},
		listing{"9 9 . . 5 0 mod .", instrs{lit(9), lit(9), dot, dot, lit(5), lit(0), op(api.Mod), dot, halt}, 0},
		listing{"constant five 5 variable x five x + 1", instrs{lit(5), lit(1), halt}, 0})
}

func TestRowsThatDoLittleAreShorter(t *testing.T) {
	checkFolded(t,
		listing{"1 + 2 +", instrs{lit(3), op(api.Add), halt}, 0},
		listing{"1 - 2 -", instrs{lit(3), op(api.Sub), halt}, 0},
		listing{"1 + 5 -", instrs{lit(-4), op(api.Add), halt}, 0},
		listing{"1 - 5 +", instrs{lit(-4), op(api.Sub), halt}, 0},
		listing{"3 * 5 *", instrs{lit(15), op(api.Mul), halt}, 0},
		listing{"6 and 3 and", instrs{lit(2), op(api.And), halt}, 0},
		listing{"6 or 3 or", instrs{lit(7), op(api.Or), halt}, 0},
		listing{"6 xor 3 xor", instrs{lit(5), op(api.Xor), halt}, 0},
		listing{"6 / 3 /", instrs{lit(6), op(api.Div), lit(3), op(api.Div), halt}, 0},
		listing{"1 + 2 + 3 + 4 - 5 +", instrs{lit(7), op(api.Add), halt}, 0},
		listing{"+ swap swap", instrs{op(api.Add), op(api.Swap), op(api.Swap), halt}, 0},
		listing{"over swap swap", instrs{op(api.Over), halt}, 0},
		listing{"rot rot rot rot", instrs{op(api.Rot), halt}, 0},
		listing{"negate negate .", instrs{op(api.Dot), halt}, 0},
		listing{"over drop over", instrs{op(api.Over), halt}, 0},
		listing{"dup swap", instrs{op(api.Dup), halt}, 0},
		listing{"swap *", instrs{op(api.Mul), halt}, 0},
		listing{"swap and", instrs{op(api.And), halt}, 0},
		listing{"swap or", instrs{op(api.Or), halt}, 0},
		listing{"swap xor", instrs{op(api.Xor), halt}, 0},
		listing{"swap =", instrs{op(api.Equal), halt}, 0},
		listing{"+ 0 -", instrs{op(api.Add), halt}, 0},
		listing{"+ 1 *", instrs{op(api.Add), halt}, 0},
		listing{"+ 1 /", instrs{op(api.Add), halt}, 0},
		listing{"+ -1 and", instrs{op(api.Add), halt}, 0},
		listing{"+ 0 or", instrs{op(api.Add), halt}, 0},
		listing{"+ 0 xor", instrs{op(api.Add), halt}, 0},
		listing{"+ 1 mod", instrs{op(api.Add), lit(1), op(api.Mod), halt}, 0},
		listing{"swap swap +", instrs{op(api.Add), halt}, 0},
		listing{"swap +", instrs{op(api.Add), halt}, 0},
		listing{"swap -", instrs{op(api.Swap), op(api.Sub), halt}, 0},
		listing{"negate +", instrs{op(api.Sub), halt}, 0},
		listing{"negate -", instrs{op(api.Add), halt}, 0},
		listing{"invert invert", instrs{op(api.Invert), op(api.Invert), halt}, 0},
		listing{"invert invert .", instrs{op(api.Dot), halt}, 0},
		listing{"dup drop .", instrs{op(api.Dup), op(api.Drop), op(api.Dot), halt}, 0},
		listing{"dup drop dup", instrs{op(api.Dup), halt}, 0},
		listing{"+ dup drop", instrs{op(api.Add), halt}, 0},
		listing{"+ 0 +", instrs{op(api.Add), halt}, 0},
		listing{"0 +", instrs{lit(0), op(api.Add), halt}, 0})
}

func TestWhatIsKnownDecidesJumps(t *testing.T) {
	dot := op(api.Dot)
	checkFolded(t,
		listing{"0 if 1 then", instrs{lit(0), to(api.Jumpz, 3), lit(1), halt}, 0},
		listing{". 0 if 1 then", instrs{dot, halt}, 0},
		listing{". 0 if 1 else 2 then", instrs{dot, lit(2), halt}, 0},
		listing{". 7 if 1 else 2 then", instrs{dot, lit(1), halt}, 0},
		listing{". begin . 0 until", instrs{dot, dot, to(api.Jump, 1)}, 0},
		listing{"begin . 1 until", instrs{dot, halt}, 0},
		listing{"begin . 1 while . repeat", instrs{dot, dot, to(api.Jump, 0)}, 0},
		// What was two blocks is one now, and reckoned as such.
		listing{". 5 1 if 3 + then", instrs{dot, lit(5), lit(1), to(api.Jumpz, 6), lit(3), op(api.Add), halt}, 0},
		listing{". . 5 1 if 3 + then", instrs{dot, dot, lit(8), halt}, 0})
}

func TestJumpsGoStraight(t *testing.T) {
	checkFolded(t,
		listing{"begin dup while if 1 else 2 then repeat", instrs{op(api.Dup), to(api.Jumpz, 7), to(api.Jumpz, 5), lit(1), to(api.Jump, 0), lit(2), to(api.Jump, 0), halt}, 0},
		listing{": f if 1 else 2 then ; f", instrs{to(api.Jumpz, 3), lit(1), ret, lit(2), ret, to(api.Call, 0), halt}, 5},
		listing{"if 1 else 2 then", instrs{to(api.Jumpz, 3), lit(1), halt, lit(2), halt}, 0},
		listing{"if 1 else then 2", instrs{to(api.Jumpz, 2), lit(1), lit(2), halt}, 0},
		listing{": f ; : g 1 ; g", instrs{lit(1), ret, to(api.Call, 0), halt}, 2},
		listing{": f ; : g f ; variable x", instrs{halt}, 0})
	// With Tail a word may be a Jump alone, and what calls it calls the goal.
	p := With(compiled(t, ": f 1 ; : g f ; : h g ; h"), api.Options{Fold: true, Tail: true})
	if want := (instrs{lit(1), ret, to(api.Call, 0), halt}); !slices.Equal(p.List, want) || p.Entry != 2 {
		t.Errorf("%v, want %v", p, want)
	}
}

func TestJumpsThatGoRound(t *testing.T) {
	for _, l := range []instrs{{to(api.Jump, 0)}, {to(api.Jump, 1), to(api.Jump, 0)}, {to(api.Jump, 1), to(api.Jump, 2), to(api.Jump, 1)}, {lit(1), to(api.Jumpz, 2), to(api.Jump, 2)}} {
		p := fold(code.Program{List: l})
		for _, in := range p.List {
			if in.Arg < 0 || in.Arg >= int64(max(2, len(p.List))) {
				t.Errorf("%v: %v", l, p)
			}
		}
		if o := machine.NewTable().Run(p, wide, 100); o.Err != api.ErrFuel {
			t.Errorf("%v: %v: %v", l, p, o)
		}
	}
}

// rowsOf answers every row of so many of the instructions.
func rowsOf(length int, from ...api.Instr) []instrs {
	rows := []instrs{nil}
	for range length {
		var longer []instrs
		for _, row := range rows {
			for _, in := range from {
				longer = append(longer, append(slices.Clone(row), in))
			}
		}
		rows = longer
	}
	return rows
}

func reckonings() []api.Instr {
	l := lits(0, 1, -1, 3)
	for n := api.Add; n <= api.Rot; n++ {
		l = append(l, op(n))
	}
	return l
}

func stacks() [][]int64 {
	const least, most = -1 << 63, 1<<63 - 1
	return [][]int64{{2, 7, -5, 3, 1}, {4, 4, 4, 4, 4}, {0, 1, -1, 0, 0}, {least, most, least, least, -1}, {9, most, most, 1, most}, {-7, 2, 7, -2, least}}
}

// ranOn answers what a row comes to on a stack that has these values and that limit, and in how many steps.
func ranOn(m *machine.Table, values []int64, limit int, row instrs) api.Outcome {
	given := lits(values...)
	p := code.Program{List: slices.Concat(given, row, instrs{halt}), Cells: 2}
	o := m.Run(p, api.Limits{Stack: limit, Aside: 1, Calls: 1, Output: 30}, 1000)
	o.Steps -= len(given)
	return o
}

func sameEnd(a, b api.Outcome) bool {
	return a.Err == b.Err && slices.Equal(a.Stack, b.Stack) && slices.Equal(a.Cells, b.Cells) && a.Output == b.Output
}

// Where there is room and there are values enough, what a rule answers does the same, but for an error that it keeps.
func TestEachRuleDoesTheSame(t *testing.T) {
	f := newFolder()
	answers := make([]int, len(f.rules))
	for length := 2; length <= 4; length++ {
		rows := rowsOf(length, reckonings()...)
		if length == 4 {
			rows = slices.DeleteFunc(rows, func(row instrs) bool { return row[0].Op != api.Lit || row[2].Op != api.Lit })
		}
		for _, row := range rows {
			for n, rule := range f.rules {
				short, ok := rule(row)
				if !ok {
					continue
				}
				answers[n]++
				if len(short) >= len(row) {
					t.Fatalf("rule %d: %v for %v is no shorter", n, short, row)
				}
				for _, values := range stacks() {
					if want, got := ranOn(f.table, values, 20, row), ranOn(f.table, values, 20, short); !sameEnd(got, want) {
						t.Fatalf("rule %d: %v for %v on %v: %v, want %v", n, short, row, values, got, want)
					}
				}
			}
		}
	}
	for n := range answers {
		// The third one is of jumps.
		if answers[n] == 0 && n != 2 {
			t.Errorf("rule %d was not asked for", n)
		}
	}
}

// checkRow holds what a row is folded to against the row, on stacks of every size with limits of every size.
func checkRow(t *testing.T, f *folder, row instrs) bool {
	t.Helper()
	short := f.foldedRow(row)
	if slices.Equal(short, row) {
		return false
	}
	for _, all := range stacks()[:2] {
		for size := range len(all) + 1 {
			for limit := max(1, size); limit < size+6; limit++ {
				want, got := ranOn(f.table, all[:size], limit, row), ranOn(f.table, all[:size], limit, short)
				if !sameEnd(got, want) || got.Steps > want.Steps {
					t.Fatalf("%v for %v on %v with a limit of %d: %v, want %v", short, row, all[:size], limit, got, want)
				}
			}
		}
	}
	return true
}

func TestFoldedRowsFailAlike(t *testing.T) {
	f := newFolder()
	some := append(reckonings(), op(api.Dot), op(api.Emit), op(api.Aside), op(api.Back), op(api.Look), op(api.Store), op(api.Fetch))
	folded := 0
	for length := range 4 {
		for _, row := range rowsOf(length, some...) {
			if checkRow(t, f, row) {
				folded++
			}
		}
	}
	state := uint64(1)
	for range 20000 {
		row := make(instrs, 4+state>>60)
		for i := range row {
			state = state*6364136223846793005 + 1442695040888963407
			row[i] = some[int(state>>33)%len(some)]
			if state>>62 == 0 {
				row[i] = lit(int64(state>>58) - 30)
			}
		}
		if checkRow(t, f, row) {
			folded++
		}
	}
	if folded < 5000 {
		t.Errorf("only %d rows were folded", folded)
	}
}

func TestWhatIsKnownBehindARow(t *testing.T) {
	f := newFolder()
	for _, c := range []struct {
		row  instrs
		want known
	}{
		{nil, known{0, 0}}, {lits(1), known{1, 0}}, {lits(1, 2, 3), known{3, 0}}, {ops(api.Drop), known{0, 1}}, {ops(api.Add), known{1, 1}},
		{ops(api.Dup), known{2, 0}}, {ops(api.Over), known{3, 0}}, {ops(api.Rot), known{3, 0}}, {ops(api.Swap), known{2, 0}}, {ops(api.Store), known{0, 2}},
		{litAnd(1, api.Dot), known{0, 1}}, {ops(api.Drop, api.Drop, api.Dup), known{2, 1}}, {ops(api.Do), known{0, 2}}, {ops(api.Look), known{1, 0}},
		{ops(api.Back, api.Aside, api.Fetch), known{1, 1}}, {ops(api.Rot, api.Drop, api.Rot), known{3, 1}},
	} {
		if got := f.knownBehind(c.row); got != c.want {
			t.Errorf("%v: %v, want %v", c.row, got, c.want)
		}
	}
}

func TestRowsThatFailAlike(t *testing.T) {
	f := newFolder()
	drop, dup, swap, add := ops(api.Drop), ops(api.Dup), ops(api.Swap), ops(api.Add)
	for _, c := range []struct {
		k                known
		old, short, next instrs
		want             bool
	}{
		{known{}, drop, drop, nil, true},
		{known{}, drop, nil, nil, false},
		{known{1, 0}, slices.Concat(dup, drop), nil, nil, false},
		{known{0, 1}, slices.Concat(dup, drop), nil, nil, false},
		{known{1, 1}, slices.Concat(dup, drop), nil, nil, true},
		{known{0, 0}, slices.Concat(dup, drop), nil, dup, true},
		{known{0, 0}, litAnd(1, api.Drop), nil, nil, false},
		{known{0, 1}, litAnd(1, api.Drop), nil, nil, true},
		{known{1, 0}, slices.Concat(swap, swap), nil, nil, false},
		{known{2, 0}, slices.Concat(swap, swap), nil, nil, true},
		{known{0, 0}, slices.Concat(swap, swap), nil, add, true},
		{known{0, 0}, slices.Concat(swap, swap), nil, dup, false},
		// The same error, but one step later.
		{known{0, 0}, lits(1, 2), slices.Concat(lits(1), swap, lits(2)), nil, false},
		{known{0, 0}, litAnd(1, api.Drop), lits(1), nil, true},
		{known{3, 0}, add, nil, nil, true},
	} {
		if got := f.failsAlike(c.k, c.old, c.short, c.next); got != c.want {
			t.Errorf("%v: %v for %v ahead of %v: %v", c.k, c.short, c.old, c.next, got)
		}
	}
}
