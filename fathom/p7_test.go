package fathom

import (
	"slices"
	"strconv"
	"strings"
	"testing"

	"fathom/api"
)

type row = []int64

func loaded(t *testing.T, l instrs, cells int) *Code {
	t.Helper()
	c, e := Load(l, 0, cells)
	if c == nil || e != api.OK {
		t.Fatalf("P6: %s: code %v, %d", brief(l), c != nil, e)
	}
	return c
}

// scene answers instructions that lay values aside and on the stack.
func scene(stack, aside row) instrs {
	var l instrs
	for _, n := range aside {
		l = append(l, lit(n), op(api.Aside))
	}
	for _, n := range stack {
		l = append(l, lit(n))
	}
	return l
}

// checkEnd asks for an end without an error, in so many steps.
func checkEnd(t *testing.T, l instrs, stack, cells row, output string, steps int) {
	t.Helper()
	o := loaded(t, l, len(cells)).Run(wide, 100000)
	if want := (api.Outcome{Stack: stack, Cells: cells, Output: output, Steps: steps}); !sameOutcome(o, want) {
		t.Errorf("P7: %s: %s, want %s", brief(l), told(o), told(want))
	}
}

type deed struct {
	in                     api.Instr
	stack, aside           row
	stackBehind, asideThen row
}

// checkDeeds asks for what instructions leave on the stack and aside; what lies aside is fetched back to see it.
func checkDeeds(t *testing.T, deeds ...deed) {
	t.Helper()
	for _, d := range deeds {
		l := append(scene(d.stack, d.aside), d.in)
		steps := len(l)
		want := slices.Clone(d.stackBehind)
		for _, n := range slices.Backward(d.asideThen) {
			l = append(l, op(api.Back))
			want = append(want, n)
		}
		checkEnd(t, append(slices.Clone(l), halt), want, nil, "", steps+len(d.asideThen)+1)
		c := loaded(t, append(l, op(api.Back), halt), 0)
		if o := c.Run(wide, 1000); o.Err != api.ErrLow {
			t.Errorf("P7: %v: more lies aside than %v", d.in, d.asideThen)
		}
	}
}

func TestP7DocumentsExamples(t *testing.T) {
	for _, c := range []struct {
		text, output string
		steps        int
	}{
		{"1 2 + .", "3 ", 5}, {": sq dup * ; 5 sq .", "25 ", 7}, {": f dup if 1 - recurse then ; 3 f .", "0 ", 25}, {"3 0 do i . loop", "0 1 2 ", 13},
	} {
		if o := compiled(t, c.text).Run(wide, 1000); !sameOutcome(o, api.Outcome{Output: c.output, Steps: c.steps}) {
			t.Errorf("P7: %q: %v, want %q in %d steps", c.text, o, c.output, c.steps)
		}
	}
	one := wide
	one.Stack = 1
	for _, o := range allOptions() {
		c, _, _ := Compile("1 2 + .", o)
		if o := c.Run(one, 1000); o.Err != api.ErrOver || o.Output != "" || o.Steps > 2 {
			t.Errorf("P7: with a stack of 1: %v", o)
		}
	}
}

func TestP7Values(t *testing.T) {
	checkDeeds(t,
		deed{lit(7), row{1}, nil, row{1, 7}, nil},
		deed{lit(least), nil, nil, row{least}, nil},
		deed{op(api.Dup), row{1, 2}, nil, row{1, 2, 2}, nil},
		deed{op(api.Drop), row{1, 2}, nil, row{1}, nil},
		deed{op(api.Swap), row{1, 2, 3}, nil, row{1, 3, 2}, nil},
		deed{op(api.Over), row{1, 2, 3}, nil, row{1, 2, 3, 2}, nil},
		deed{op(api.Rot), row{1, 2, 3, 4}, nil, row{1, 3, 4, 2}, nil},
		deed{op(api.Aside), row{1, 2}, row{8}, row{1}, row{8, 2}},
		deed{op(api.Back), row{1}, row{8, 9}, row{1, 9}, row{8}},
		deed{op(api.Look), row{1}, row{8, 9}, row{1, 9}, row{8, 9}},
		deed{op(api.Index), row{1}, row{8, 9}, row{1, 9}, row{8, 9}},
		deed{op(api.Index), nil, row{5}, row{5}, row{5}},
		deed{op(api.Do), row{1, 2, 3}, row{8}, row{1}, row{8, 2, 3}})
}

// checkReckoned asks for what an operator gives of two values that lie on others.
func checkReckoned(t *testing.T, n int, rows ...[3]int64) {
	t.Helper()
	for _, r := range rows {
		checkDeeds(t, deed{op(n), row{77, r[0], r[1]}, nil, row{77, r[2]}, nil})
	}
}

func TestP7Reckoning(t *testing.T) {
	checkReckoned(t, api.Add, [3]int64{5, 3, 8}, [3]int64{-5, 3, -2}, [3]int64{most, 1, least}, [3]int64{least, -1, most}, [3]int64{least, least, 0}, [3]int64{most, most, -2})
	checkReckoned(t, api.Sub, [3]int64{5, 3, 2}, [3]int64{3, 5, -2}, [3]int64{least, 1, most}, [3]int64{most, -1, least}, [3]int64{0, least, least}, [3]int64{-1, most, least})
	checkReckoned(t, api.Mul, [3]int64{5, -3, -15}, [3]int64{most, 2, -2}, [3]int64{least, -1, least}, [3]int64{1 << 32, 1 << 32, 0}, [3]int64{1 << 62, 2, least}, [3]int64{most, most, 1})
	checkReckoned(t, api.And, [3]int64{12, 10, 8}, [3]int64{-1, 5, 5}, [3]int64{least, -1, least})
	checkReckoned(t, api.Or, [3]int64{12, 10, 14}, [3]int64{least, most, -1})
	checkReckoned(t, api.Xor, [3]int64{12, 10, 6}, [3]int64{-1, 5, -6}, [3]int64{least, least, 0})
	checkReckoned(t, api.Equal, [3]int64{3, 3, -1}, [3]int64{3, 4, 0}, [3]int64{4, 3, 0}, [3]int64{least, most, 0}, [3]int64{least, least, -1})
	checkReckoned(t, api.Less, [3]int64{3, 3, 0}, [3]int64{3, 4, -1}, [3]int64{4, 3, 0}, [3]int64{least, most, -1}, [3]int64{most, least, 0}, [3]int64{-1, 0, -1})
	for _, r := range [][3]int64{{api.Invert, 0, -1}, {api.Invert, 5, -6}, {api.Invert, least, most}, {api.Negate, 5, -5}, {api.Negate, -5, 5}, {api.Negate, 0, 0}, {api.Negate, least, least}, {api.Negate, most, -most}} {
		checkDeeds(t, deed{op(int(r[0])), row{77, r[1]}, nil, row{77, r[2]}, nil})
	}
}

func TestP7Division(t *testing.T) {
	checkReckoned(t, api.Div, [3]int64{7, 2, 3}, [3]int64{-7, 2, -4}, [3]int64{7, -2, -4}, [3]int64{-7, -2, 3}, [3]int64{6, 2, 3}, [3]int64{-6, 2, -3}, [3]int64{6, -2, -3}, [3]int64{-6, -2, 3},
		[3]int64{0, 5, 0}, [3]int64{0, -5, 0}, [3]int64{1, 5, 0}, [3]int64{-1, 5, -1}, [3]int64{1, -5, -1}, [3]int64{-1, -5, 0},
		[3]int64{least, -1, least}, [3]int64{least, 1, least}, [3]int64{most, -1, -most}, [3]int64{least, 2, least / 2}, [3]int64{least, most, -2}, [3]int64{most, least, -1}, [3]int64{least, least, 1}, [3]int64{1, least, -1}, [3]int64{-1, most, -1})
	checkReckoned(t, api.Mod, [3]int64{7, 2, 1}, [3]int64{-7, 2, 1}, [3]int64{7, -2, -1}, [3]int64{-7, -2, -1}, [3]int64{6, 2, 0}, [3]int64{-6, 2, 0}, [3]int64{6, -2, 0}, [3]int64{-6, -2, 0},
		[3]int64{0, 5, 0}, [3]int64{0, -5, 0}, [3]int64{1, 5, 1}, [3]int64{-1, 5, 4}, [3]int64{1, -5, -4}, [3]int64{-1, -5, -1},
		[3]int64{least, -1, 0}, [3]int64{least, 1, 0}, [3]int64{most, -1, 0}, [3]int64{least, most, most - 1}, [3]int64{most, least, -1}, [3]int64{least, least, 0}, [3]int64{1, least, least + 1}, [3]int64{-1, most, most - 1})
}

func TestP7Cells(t *testing.T) {
	checkEnd(t, instrs{lit(7), lit(1), op(api.Store), lit(1), op(api.Fetch), lit(2), op(api.Fetch), halt}, row{7, 0}, row{0, 7, 0}, "", 8)
	checkEnd(t, instrs{lit(7), lit(0), op(api.Store), lit(8), lit(0), op(api.Store), halt}, nil, row{8}, "", 7)
	for text, n := range map[string]int{"": 0, "constant c 5 : w ;": 0, "variable a": 1, "variable a : w ; variable b constant c 1 variable d": 3} {
		if o := compiled(t, text).Run(wide, 10); o.Err != api.OK || !slices.Equal(o.Cells, make(row, n)) {
			t.Errorf("P7: %q: %v, want %d cells", text, o, n)
		}
	}
	// As many variables as a text can have.
	var b strings.Builder
	n := 0
	for ; b.Len() < 1900; n++ {
		b.WriteString("variable v" + strconv.Itoa(n) + " ")
	}
	text := b.String() + "7 v" + strconv.Itoa(n-1) + " !"
	want := make(row, n)
	want[n-1] = 7
	if o := compiled(t, text).Run(wide, 10); o.Err != api.OK || !slices.Equal(o.Cells, want) {
		t.Errorf("P7: %d variables: error %d, %d cells", n, o.Err, len(o.Cells))
	}
}

func TestP7Output(t *testing.T) {
	for n, want := range map[int64]string{65: "A", 0: "\x00", 255: "\xff", 256: "\x00", 321: "A", -1: "\xff", -191: "A", -256: "\x00", least: "\x00", most: "\xff", 10: "\n", 200: "\xc8"} {
		checkEnd(t, instrs{lit(n), op(api.Emit), halt}, nil, nil, want, 3)
	}
	for n, want := range map[int64]string{0: "0 ", 7: "7 ", -7: "-7 ", 100: "100 ", most: "9223372036854775807 ", least: "-9223372036854775808 "} {
		checkEnd(t, instrs{lit(n), op(api.Dot), halt}, nil, nil, want, 3)
	}
	checkEnd(t, instrs{lit(9), lit(1), op(api.Dot), lit(66), op(api.Emit), lit(-2), op(api.Dot), halt}, row{9}, nil, "1 B-2 ", 8)
}

func TestP7Going(t *testing.T) {
	checkEnd(t, instrs{to(api.Jump, 3), lit(1), halt, lit(2), to(api.Jump, 1)}, row{2, 1}, nil, "", 5)
	checkEnd(t, instrs{lit(5), lit(0), to(api.Jumpz, 4), lit(1), halt}, row{5}, nil, "", 4)
	for _, n := range []int64{1, -1, 256, least, 1 << 32} {
		checkEnd(t, instrs{lit(n), to(api.Jumpz, 3), lit(1), halt}, row{1}, nil, "", 4)
	}
	checkEnd(t, instrs{to(api.Call, 3), lit(1), halt, lit(2), ret}, row{2, 1}, nil, "", 5)
	checkEnd(t, instrs{to(api.Call, 3), lit(1), halt, to(api.Call, 6), lit(2), ret, lit(3), ret}, row{3, 2, 1}, nil, "", 8)
	// Whether an end is met within calls, and what lies aside there, makes no difference.
	checkEnd(t, instrs{lit(4), op(api.Aside), to(api.Call, 3), lit(1), halt}, row{1}, nil, "", 5)
	checkEnd(t, instrs{halt, lit(1), halt}, nil, nil, "", 1)
}

func TestP7Loop(t *testing.T) {
	body := instrs{op(api.Do), op(api.Index), to(api.Loop, 3), op(api.Back), halt}
	for _, c := range []struct{ a, b, n int64 }{{3, 0, 3}, {-1, -3, 2}, {least, most, 1}, {least + 1, most - 1, 3}, {1, 0, 1}} {
		var want row
		for k := range c.n {
			want = append(want, c.b+k)
		}
		l := slices.Concat(instrs{lit(c.a), lit(c.b)}, body)
		// Behind the loop nothing of it lies aside.
		if o := loaded(t, l, 0).Run(wide, 1000); o.Err != api.ErrLow || o.Steps != 4+2*int(c.n) {
			t.Errorf("P7: from %d up to %d: %v", c.b, c.a, o)
		}
		l[len(l)-2] = halt
		checkEnd(t, l, want, nil, "", 4+2*int(c.n))
	}
	// What is equal at first goes all the way round: it is counted up ahead of being looked at.
	c := loaded(t, slices.Concat(instrs{lit(5), lit(5)}, body), 0)
	if o := c.Run(wide, 100000); o.Err != api.ErrOver || o.Steps != 3+2000+1 {
		t.Errorf("P7: a loop that begins at its end: %v", o)
	}
	checkDeeds(t, deed{to(api.Loop, 0), nil, row{6, 5}, nil, nil}, deed{to(api.Loop, 0), row{1}, row{4, 6, 5}, row{1}, row{4}})
	checkEnd(t, instrs{lit(9), lit(5), op(api.Do), to(api.Loop, 6), lit(1), halt, op(api.Back), op(api.Back), halt}, row{6, 9}, nil, "", 7)
}

func TestP7Several(t *testing.T) {
	for _, c := range []struct {
		in          api.Instr
		stack, want row
		cells       row
	}{
		{to(api.LitAdd, 3), row{1, 5}, row{1, 8}, row{40, 41}}, {to(api.LitAdd, 1), row{most}, row{least}, row{40, 41}},
		{to(api.LitSub, 3), row{1, 5}, row{1, 2}, row{40, 41}}, {to(api.LitMul, -3), row{1, 5}, row{1, -15}, row{40, 41}},
		{to(api.LitLess, 6), row{1, 5}, row{1, -1}, row{40, 41}}, {to(api.LitLess, 5), row{1, 5}, row{1, 0}, row{40, 41}}, {to(api.LitLess, 4), row{1, 5}, row{1, 0}, row{40, 41}},
		{to(api.LitFetch, 1), row{5}, row{5, 41}, row{40, 41}}, {to(api.LitStore, 1), row{4, 5}, row{4}, row{40, 5}},
		{to(api.LitAddFetch, 2), row{4, -1}, row{4, 41}, row{40, 41}}, {op(api.DupFetch), row{4, 1}, row{4, 1, 41}, row{40, 41}},
		{op(api.DupMul), row{2, -3}, row{2, 9}, row{40, 41}}, {op(api.DupDup), row{2, 3}, row{2, 3, 3, 3}, row{40, 41}}, {op(api.DupOver), row{2, 3}, row{2, 3, 3, 3}, row{40, 41}},
		{to(api.DupLitEqual, 3), row{2, 3}, row{2, 3, -1}, row{40, 41}}, {to(api.DupLitEqual, 2), row{2, 3}, row{2, 3, 0}, row{40, 41}},
		{op(api.DropDrop), row{1, 2, 3}, row{1}, row{40, 41}}, {op(api.DropDup), row{1, 2, 3}, row{1, 2, 2}, row{40, 41}},
		{op(api.SwapDrop), row{1, 2, 3}, row{1, 3}, row{40, 41}}, {op(api.SwapOver), row{1, 2, 3}, row{1, 3, 2, 3}, row{40, 41}},
		{op(api.OverOver), row{1, 2, 3}, row{1, 2, 3, 2, 3}, row{40, 41}}, {op(api.OverAdd), row{1, 2, 3}, row{1, 2, 5}, row{40, 41}},
		{op(api.OverOverLess), row{1, 2, 3}, row{1, 2, 3, -1}, row{40, 41}}, {op(api.OverOverLess), row{1, 3, 2}, row{1, 3, 2, 0}, row{40, 41}}, {op(api.OverOverLess), row{3, 3}, row{3, 3, 0}, row{40, 41}},
		{op(api.FetchAdd), row{1, 2, 1}, row{1, 43}, row{40, 41}},
	} {
		filled := instrs{lit(40), lit(0), op(api.Store), lit(41), lit(1), op(api.Store)}
		checkEnd(t, slices.Concat(filled, scene(c.stack, nil), instrs{c.in, halt}), c.want, c.cells, "", len(filled)+len(c.stack)+2)
	}
}

type failing struct {
	list  instrs
	steps int
	want  api.Errno
}

// checkFailing asks for an error at the step of that number; each has as much room as l and 2 cells.
func checkFailing(t *testing.T, l api.Limits, rows ...failing) {
	t.Helper()
	for _, r := range rows {
		o := loaded(t, append(r.list, halt), 2).Run(l, 100000)
		if o.Err != r.want || o.Steps != r.steps || len(o.Stack)+len(o.Cells) > 0 || o.Output != "" {
			t.Errorf("P7: %s with %v: %v, want %d at step %d", brief(r.list), l, o, r.want, r.steps)
		}
	}
}

func TestP7Under(t *testing.T) {
	for n, takes := range map[int]int{
		api.Jumpz: 1, api.Do: 2, api.Add: 2, api.Sub: 2, api.Mul: 2, api.Div: 2, api.Mod: 2, api.And: 2, api.Or: 2, api.Xor: 2, api.Invert: 1,
		api.Negate: 1, api.Equal: 2, api.Less: 2, api.Dup: 1, api.Drop: 1, api.Swap: 2, api.Over: 2, api.Rot: 3, api.Aside: 1, api.Store: 2,
		api.Fetch: 1, api.Emit: 1, api.Dot: 1,
		api.LitAdd: 1, api.LitSub: 1, api.LitMul: 1, api.LitLess: 1, api.LitStore: 1, api.LitAddFetch: 1, api.DupFetch: 1, api.DupMul: 1, api.DupDup: 1,
		api.DupOver: 1, api.DupLitEqual: 1, api.DropDrop: 2, api.DropDup: 2, api.SwapDrop: 2, api.SwapOver: 2, api.OverOver: 2, api.OverAdd: 2,
		api.OverOverLess: 2, api.FetchAdd: 2,
	} {
		for have := range takes {
			// The values are 0: an address of a cell, and no divisor; the aside has no room left, nor is there a need of it.
			l := scene(slices.Repeat(row{0}, have), row{1})
			checkFailing(t, api.Limits{Stack: 9, Aside: 1, Calls: 1, Output: 1}, failing{append(l, op(n)), len(l) + 1, api.ErrUnder})
		}
	}
	for _, n := range []int{api.Lit, api.Jump, api.Call, api.Halt, api.LitFetch} {
		if o := loaded(t, instrs{to(n, 1), halt}, 2).Run(wide, 9); o.Err != api.OK {
			t.Errorf("P7: operator %d on nothing: %v", n, o)
		}
	}
}

func TestP7Over(t *testing.T) {
	for _, n := range []int{
		api.Lit, api.Dup, api.Over, api.Look, api.Index, api.Back,
		api.LitAdd, api.LitSub, api.LitMul, api.LitLess, api.LitFetch, api.LitStore, api.LitAddFetch, api.DupFetch, api.DupMul, api.DupDup, api.DupOver,
		api.DupLitEqual, api.SwapOver, api.OverOver, api.OverAdd, api.OverOverLess,
	} {
		for _, size := range []int{2, 3, 1000} {
			l := scene(slices.Repeat(row{0}, size), row{1})
			checkFailing(t, api.Limits{Stack: size, Aside: 1, Calls: 1, Output: 1}, failing{append(l, op(n)), len(l) + 1, api.ErrOver})
		}
	}
	// The second part that gives is one too many.
	for _, n := range []int{api.DupDup, api.DupOver, api.DupLitEqual, api.OverOver, api.OverOverLess} {
		checkFailing(t, api.Limits{Stack: 3, Aside: 1, Calls: 1, Output: 1}, failing{instrs{lit(0), lit(0), op(n)}, 3, api.ErrOver})
	}
	// What takes as many as it gives needs no room, up to the limit itself.
	for _, n := range []int{api.Swap, api.Rot, api.Invert, api.Fetch, api.SwapDrop, api.DropDup, api.FetchAdd} {
		l := append(scene(row{0, 0, 0}, nil), op(n), halt)
		if o := loaded(t, l, 2).Run(api.Limits{Stack: 3, Aside: 1, Calls: 1, Output: 1}, 9); o.Err != api.OK {
			t.Errorf("P7: operator %d on a full stack: %v", n, o)
		}
	}
}

func TestP7Aside(t *testing.T) {
	room := api.Limits{Stack: 2, Aside: 2, Calls: 1, Output: 1}
	checkFailing(t, room,
		failing{instrs{op(api.Back)}, 1, api.ErrLow}, failing{instrs{op(api.Look)}, 1, api.ErrLow}, failing{instrs{op(api.Index)}, 1, api.ErrLow},
		failing{instrs{to(api.Loop, 0)}, 1, api.ErrLow}, failing{append(scene(nil, row{1}), to(api.Loop, 0)), 3, api.ErrLow},
		failing{append(scene(row{5}, row{1, 2}), op(api.Aside)), 6, api.ErrHigh},
		failing{append(scene(row{5, 6}, row{1}), op(api.Do)), 5, api.ErrHigh}, failing{append(scene(row{5, 6}, row{1, 2}), op(api.Do)), 7, api.ErrHigh})
	checkEnd(t, append(scene(nil, slices.Repeat(row{1}, 1000)), op(api.Look), halt), row{1}, nil, "", 2002)
	one := room
	one.Aside = 1
	checkFailing(t, one, failing{instrs{lit(5), lit(6), op(api.Do)}, 3, api.ErrHigh})
}

func TestP7Calls(t *testing.T) {
	deep := instrs{to(api.Call, 0)}
	for _, n := range []int{1, 2, 1000} {
		checkFailing(t, api.Limits{Stack: 1, Aside: 1, Calls: n, Output: 1}, failing{deep, n + 1, api.ErrCalls})
	}
	checkFailing(t, wide, failing{instrs{ret}, 1, api.ErrCalls}, failing{instrs{to(api.Call, 2), ret, ret}, 3, api.ErrCalls})
	// What was returned from is no call any more.
	two := instrs{to(api.Call, 3), to(api.Call, 3), halt, ret}
	if o := loaded(t, two, 0).Run(api.Limits{Stack: 1, Aside: 1, Calls: 1, Output: 1}, 9); o.Err != api.OK || o.Steps != 5 {
		t.Errorf("P7: one call behind the other: %v", o)
	}
}

func TestP7Addresses(t *testing.T) {
	for _, k := range []int64{least, -1, 2, 3, 1000, 1 << 32, most} {
		checkFailing(t, wide,
			failing{instrs{lit(k), op(api.Fetch)}, 2, api.ErrAddr}, failing{instrs{lit(5), lit(k), op(api.Store)}, 3, api.ErrAddr},
			failing{instrs{to(api.LitFetch, k)}, 1, api.ErrAddr}, failing{instrs{lit(5), to(api.LitStore, k)}, 2, api.ErrAddr},
			failing{instrs{lit(0), to(api.LitAddFetch, k)}, 2, api.ErrAddr}, failing{instrs{lit(k), op(api.DupFetch)}, 2, api.ErrAddr},
			failing{instrs{lit(5), lit(k), op(api.FetchAdd)}, 3, api.ErrAddr})
	}
	for _, l := range []instrs{{lit(0), op(api.Fetch), halt}, {lit(5), lit(0), op(api.Store), halt}} {
		if o := loaded(t, l, 0).Run(wide, 9); o.Err != api.ErrAddr {
			t.Errorf("P7: without cells: %v", o)
		}
	}
}

func TestP7DivisionByNought(t *testing.T) {
	for _, a := range []int64{0, 1, -1, least, most} {
		checkFailing(t, wide, failing{instrs{lit(a), lit(0), op(api.Div)}, 3, api.ErrDivide}, failing{instrs{lit(a), lit(0), op(api.Mod)}, 3, api.ErrDivide})
	}
}

func TestP7OutputsLimit(t *testing.T) {
	for _, c := range []struct {
		limit  int
		text   string
		e      api.Errno
		output string
		steps  int
	}{
		{1, "65 emit", api.OK, "A", 3}, {1, "65 emit 66 emit", api.ErrOutput, "A", 4}, {1, "7 .", api.ErrOutput, "", 2}, {2, "7 .", api.OK, "7 ", 3},
		{2, "-7 .", api.ErrOutput, "", 2}, {3, "-7 .", api.OK, "-7 ", 3}, {3, "7 . 7 .", api.ErrOutput, "7 ", 4}, {3, "7 . 65 emit", api.OK, "7 A", 5},
		{20, "-9223372036854775808 .", api.ErrOutput, "", 2}, {21, "-9223372036854775808 .", api.OK, "-9223372036854775808 ", 3},
		{1000, "begin 65 emit 0 until", api.ErrOutput, strings.Repeat("A", 1000), 4002}, {999, "begin 12 . 0 until", api.ErrOutput, strings.Repeat("12 ", 333), 4*333 + 2},
		{1000, "begin 12 . 0 until", api.ErrOutput, strings.Repeat("12 ", 333), 4*333 + 2},
	} {
		l := wide
		l.Output = c.limit
		if o := compiled(t, c.text).Run(l, 100000); !sameOutcome(o, api.Outcome{Err: c.e, Output: c.output, Steps: c.steps}) {
			t.Errorf("P7: %q with output of %d: %s, want %d, %.300q, %d steps", c.text, c.limit, told(o), c.e, c.output, c.steps)
		}
	}
}

func TestP7WhichErrorComesFirst(t *testing.T) {
	tight := api.Limits{Stack: 2, Aside: 1, Calls: 1, Output: 1}
	checkFailing(t, tight,
		failing{instrs{lit(1), op(api.Aside), op(api.Aside)}, 3, api.ErrUnder},
		failing{instrs{lit(1), op(api.Aside), lit(1), op(api.Do)}, 4, api.ErrUnder},
		failing{instrs{op(api.Do)}, 1, api.ErrUnder},
		failing{instrs{lit(1), lit(1), op(api.Back)}, 3, api.ErrOver},
		failing{instrs{lit(1), lit(1), op(api.Look)}, 3, api.ErrOver},
		failing{instrs{lit(1), lit(1), op(api.Index)}, 3, api.ErrOver},
		failing{instrs{lit(9), op(api.Store)}, 2, api.ErrUnder},
		failing{instrs{op(api.Fetch)}, 1, api.ErrUnder},
		failing{instrs{lit(0), op(api.Div)}, 2, api.ErrUnder},
		failing{instrs{lit(0), op(api.Mod)}, 2, api.ErrUnder},
		failing{instrs{op(api.Dot)}, 1, api.ErrUnder},
		// Of those that stand for several it is the first part's, though another is named ahead of it.
		failing{instrs{lit(1), lit(1), to(api.LitAdd, 1)}, 3, api.ErrOver},
		failing{instrs{lit(1), lit(1), to(api.LitFetch, 9)}, 3, api.ErrOver},
		failing{instrs{lit(9), op(api.FetchAdd)}, 2, api.ErrAddr},
		failing{instrs{lit(1), op(api.FetchAdd)}, 2, api.ErrUnder},
		failing{instrs{lit(1), lit(1), op(api.OverOver)}, 3, api.ErrOver},
		failing{instrs{lit(1), op(api.OverOver)}, 2, api.ErrUnder})
	// A full output and nothing on the stack.
	for _, n := range []int{api.Emit, api.Dot} {
		o := loaded(t, instrs{lit(65), op(api.Emit), op(n), halt}, 0).Run(tight, 9)
		if o.Err != api.ErrUnder || o.Output != "A" || o.Steps != 3 {
			t.Errorf("P7: operator %d: %v", n, o)
		}
	}
}

func TestP7Limits(t *testing.T) {
	c := loaded(t, instrs{halt}, 1)
	for _, n := range []int{least, -1, 0, 1, 2, 999, 1000, 1001, 1 << 32, 1<<32 + 1, most} {
		for k, l := range []api.Limits{
			{Stack: n, Aside: 5, Calls: 5, Output: 5}, {Stack: 5, Aside: n, Calls: 5, Output: 5}, {Stack: 5, Aside: 5, Calls: n, Output: 5},
			{Stack: 5, Aside: 5, Calls: 5, Output: n}, {Stack: n, Aside: n, Calls: n, Output: n},
		} {
			want := api.Outcome{Err: api.ErrLimit}
			if n >= 1 && n <= 1000 {
				want = api.Outcome{Cells: row{0}, Steps: 1}
			}
			if o := c.Run(l, 5); !sameOutcome(o, want) {
				t.Errorf("P7: limit %d is %d: %v, want %v", k, n, o, want)
			}
		}
	}
	// Limits are asked for ahead of all else.
	for _, fuel := range []int{least, -1, 0, 1} {
		if o := loaded(t, instrs{ret}, 0).Run(api.Limits{}, fuel); !sameOutcome(o, api.Outcome{Err: api.ErrLimit}) {
			t.Errorf("P7: no limits, fuel %d: %v", fuel, o)
		}
	}
}

func TestP7LimitsOfOneAndOfAThousand(t *testing.T) {
	for _, n := range []int{1, 1000} {
		l := api.Limits{Stack: n, Aside: n, Calls: n, Output: n}
		full := scene(slices.Repeat(row{3}, n), nil)
		if o := loaded(t, append(slices.Clone(full), halt), 0).Run(l, 5000); o.Err != api.OK || !slices.Equal(o.Stack, slices.Repeat(row{3}, n)) {
			t.Errorf("P7: a stack of %d: error %d, %d values", n, o.Err, len(o.Stack))
		}
		checkFailing(t, l, failing{append(full, lit(3)), n + 1, api.ErrOver})
		laid := scene(nil, slices.Repeat(row{3}, n))
		if o := loaded(t, append(slices.Clone(laid), halt), 0).Run(l, 5000); o.Err != api.OK || o.Steps != 2*n+1 {
			t.Errorf("P7: %d aside: %v", n, o)
		}
		checkFailing(t, l, failing{append(laid, lit(3), op(api.Aside)), 2*n + 2, api.ErrHigh})
		var put instrs
		for range n {
			put = append(put, lit(65), op(api.Emit))
		}
		if o := loaded(t, append(slices.Clone(put), halt), 0).Run(l, 5000); !sameOutcome(o, api.Outcome{Output: strings.Repeat("A", n), Steps: 2*n + 1}) {
			t.Errorf("P7: output of %d: %s", n, told(o))
		}
		if o := loaded(t, append(put, lit(65), op(api.Emit), halt), 0).Run(l, 5000); !sameOutcome(o, api.Outcome{Err: api.ErrOutput, Output: strings.Repeat("A", n), Steps: 2*n + 2}) {
			t.Errorf("P7: output of %d and one: %s", n, told(o))
		}
		// So many calls, each with its return.
		down := instrs{lit(int64(n)), to(api.Call, 3), halt, op(api.Dup), to(api.Jumpz, 8), lit(1), op(api.Sub), to(api.Call, 3), ret}
		enough := api.Limits{Stack: 5, Aside: 1, Calls: n, Output: 1}
		checkFailing(t, enough, failing{slices.Clone(down), 2 + 5*n, api.ErrCalls})
		down[0] = lit(int64(n - 1))
		if o := loaded(t, down, 0).Run(enough, 100000); o.Err != api.OK || !slices.Equal(o.Stack, row{0}) {
			t.Errorf("P7: %d calls: %v", n, o)
		}
	}
}

func TestP7Fuel(t *testing.T) {
	ends := loaded(t, instrs{lit(65), op(api.Emit), lit(7), lit(8), lit(0), op(api.Store), halt}, 1)
	fails := loaded(t, instrs{lit(65), op(api.Emit), lit(7), lit(8), lit(0), op(api.Store), op(api.Add), halt}, 1)
	for _, fuel := range []int{least, -1, 0, 1, 2, 3, 5, 6, 7, 8, 1000, most} {
		ran := max(fuel, 0)
		output := ""
		if ran >= 2 {
			output = "A"
		}
		end, fail := api.Outcome{Err: api.ErrFuel, Output: output, Steps: ran}, api.Outcome{Err: api.ErrFuel, Output: output, Steps: ran}
		if fuel >= 7 {
			end = api.Outcome{Stack: row{7}, Cells: row{8}, Output: "A", Steps: 7}
			fail = api.Outcome{Err: api.ErrUnder, Output: "A", Steps: 7}
		}
		if o := ends.Run(wide, fuel); !sameOutcome(o, end) {
			t.Errorf("P7: fuel %d: %v, want %v", fuel, o, end)
		}
		if o := fails.Run(wide, fuel); !sameOutcome(o, fail) {
			t.Errorf("P7: fuel %d, an error at step 7: %v, want %v", fuel, o, fail)
		}
	}
	round := loaded(t, instrs{to(api.Jump, 0)}, 3)
	for _, fuel := range []int{0, 1, 2, 100000} {
		if o := round.Run(wide, fuel); !sameOutcome(o, api.Outcome{Err: api.ErrFuel, Steps: fuel}) {
			t.Errorf("P7: fuel %d, no end: %v", fuel, o)
		}
	}
	// One that stands for several is one step.
	if o := loaded(t, instrs{lit(5), to(api.LitAddFetch, -5), halt}, 1).Run(wide, 2); !sameOutcome(o, api.Outcome{Err: api.ErrFuel, Steps: 2}) {
		t.Errorf("P7: %v", o)
	}
}

// Every operator on stacks, things aside and cells of every small size, with limits about them.
func TestP7EveryOperatorInEverySituation(t *testing.T) {
	count := map[api.Errno]int{}
	for n := range api.LastSuper + 1 {
		if n > api.LastBase && n < api.LitAdd {
			continue
		}
		c := &chance{uint64(n)}
		for range 3000 {
			var stack, aside row
			for range c.below(6) {
				stack = append(stack, int64(c.below(5)-2))
			}
			for range c.below(4) {
				aside = append(aside, int64(c.below(3)))
			}
			l := slices.Concat(instrs{lit(65), op(api.Emit)}, scene(stack, aside), instrs{to(n, int64(c.below(3))), halt})
			limits := api.Limits{Stack: max(1, len(stack)+c.below(4)-1), Aside: max(1, len(aside)+c.below(4)-1), Calls: 1 + c.below(2), Output: 1 + c.below(4)}
			o := checkModelled(t, l, 0, c.below(4), limits, 60)
			count[o.Err]++
		}
	}
	for e := api.ErrUnder; e <= api.ErrFuel; e++ {
		if count[e] < 50 {
			t.Errorf("error %d was met %d times only", e, count[e])
		}
	}
	if count[api.OK] < 1000 {
		t.Errorf("only %d runs came to an end", count[api.OK])
	}
}

func TestP7CompiledProgramsOfEveryShape(t *testing.T) {
	s := &sketch{chance: &chance{6}}
	for range 1000 {
		p := s.program()
		if len(p.text) > api.MaxText {
			continue
		}
		l := api.Limits{Stack: 1 + s.chance.below(12), Aside: 1 + s.chance.below(6), Calls: 1 + s.chance.below(4), Output: 10}
		fuel := s.chance.below(200)
		o := compiled(t, p.text).Run(l, fuel)
		if want := modelled(p.list, p.entry, 0, l, fuel); !sameOutcome(o, want) {
			t.Fatalf("P7: %q with %v, fuel %d: %v, want %v", p.text, l, fuel, o, want)
		}
	}
}
