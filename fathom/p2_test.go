package fathom

import (
	"slices"
	"sync"
	"testing"

	"fathom/api"
)

const ownText = ": a dup if 1 - recurse then ; variable x 3 a x ! begin x @ while 1 repeat"

// spoil writes into a list and into its spare room.
func spoil(l []api.Instr) {
	l = l[:cap(l)]
	for i := range l {
		l[i] = api.Instr{Op: -1, Arg: -1}
	}
}

func TestP2ListsAreNewMemory(t *testing.T) {
	for _, o := range allOptions() {
		c, other := compiledWith(t, ownText, o), compiledWith(t, ownText, o)
		first, at := c.List()
		want := slices.Clone(first)
		second, _ := c.List()
		spoil(first)
		_ = append(first[:1], api.Instr{Op: -2}, api.Instr{Op: -2})
		if !slices.Equal(second, want) {
			t.Errorf("P2: with %+v a list that came out ahead is changed: %v", o, second)
		}
		for _, code := range []*Code{c, other, compiledWith(t, ownText, o)} {
			if l, entry := code.List(); !slices.Equal(l, want) || entry != at {
				t.Errorf("P2: with %+v a list that came out later is changed: %v, %d", o, l, entry)
			}
		}
	}
}

// What an option changes is not seen in code that was compiled with others.
func TestP2CodeWithOtherOptionsStays(t *testing.T) {
	plain := compiled(t, ownText)
	want, at := plain.List()
	for _, o := range allOptions() {
		compiledWith(t, ownText, o).Run(wide, 1000)
		if l, entry := plain.List(); !slices.Equal(l, want) || entry != at {
			t.Errorf("P2: behind %+v: %v, %d", o, l, entry)
		}
		if l, entry := compiled(t, ownText).List(); !slices.Equal(l, want) || entry != at {
			t.Errorf("P2: compiled behind %+v: %v, %d", o, l, entry)
		}
	}
}

func TestP2AppendingToAListChangesNoOther(t *testing.T) {
	c := compiled(t, "1 2 3")
	first, _ := c.List()
	second, _ := c.List()
	longer := append(first, lit(7))
	_ = append(second, lit(8))
	if longer[len(longer)-1] != lit(7) {
		t.Errorf("P2: two lists share their spare room: %v", longer)
	}
}

func TestP2TheSameTextGivesTheSame(t *testing.T) {
	want, _ := compiled(t, ownText).List()
	// What was compiled in between, names and errors too, must leave nothing behind.
	for _, between := range []string{"variable y variable z", ": b ; b", "variable x x", "if", ": c 1", ": a ;"} {
		Compile(between, api.Options{})
		if l, entry := compiled(t, ownText).List(); !slices.Equal(l, want) || entry != 6 {
			t.Errorf("P2: behind %q: %v, %d, want %v", between, l, entry, want)
		}
	}
}

// roomy answers a list that has spare room, the whole of it, and a copy of that whole.
func roomy(l ...api.Instr) (list, whole, copied instrs) {
	whole = make(instrs, len(l)+4)
	for i := range whole {
		whole[i] = to(-9, -9)
	}
	copy(whole, l)
	return whole[:len(l)], whole, slices.Clone(whole)
}

var storing = instrs{lit(7), op(api.Dup), lit(1), op(api.Store), lit(65), op(api.Emit), to(api.LitAdd, 2), halt}

func TestP2WhatIsLoadedIsNotWrittenInto(t *testing.T) {
	list, whole, copied := roomy(storing...)
	c, _ := Load(list, 0, 2)
	l, _ := c.List()
	spoil(l)
	_ = append(l, halt)
	c.Run(wide, 100)
	Load(list, -1, 2)
	Load(whole, 0, 2)
	if !slices.Equal(whole, copied) {
		t.Errorf("P2: what was handed in is now %v", whole)
	}
}

func TestP2WhatIsLoadedIsNotKept(t *testing.T) {
	list, whole, _ := roomy(storing...)
	c, _ := Load(list, 0, 2)
	ahead := c.Run(wide, 100)
	spoil(whole)
	if l, entry := c.List(); !slices.Equal(l, storing) || entry != 0 {
		t.Errorf("P2: when what was handed in is written into, the list is %v, %d", l, entry)
	}
	if o := c.Run(wide, 100); !sameOutcome(o, ahead) || o.Err != api.OK {
		t.Errorf("P2: when what was handed in is written into, a run comes to %v", o)
	}
}

func spoilValues(l []int64) {
	l = l[:cap(l)]
	for i := range l {
		l[i] = -99
	}
}

func TestP2OutcomesOfCompiledCodeAreNewMemory(t *testing.T) {
	for _, o := range allOptions() {
		c := compiledWith(t, "variable x variable y 3 4 x ! 1 2 + 5", o)
		first, second := c.Run(wide, 100), c.Run(wide, 100)
		spoilValues(first.Stack)
		spoilValues(first.Cells)
		for _, got := range []api.Outcome{second, c.Run(wide, 100)} {
			if !slices.Equal(got.Stack, row{3, 3, 5}) || !slices.Equal(got.Cells, row{4, 0}) {
				t.Errorf("P2: with %+v, when an outcome is written into, another is %v", o, got)
			}
		}
	}
}

func TestP2OutcomesAreNewMemory(t *testing.T) {
	c, _ := Load(storing, 0, 2)
	want := api.Outcome{Stack: row{9}, Cells: row{0, 7}, Output: "A", Steps: 8}
	first, second := c.Run(wide, 100), c.Run(wide, 100)
	spoilValues(first.Stack)
	if !slices.Equal(first.Cells, want.Cells) {
		t.Errorf("P2: the cells share memory with the stack: %v", first.Cells)
	}
	spoilValues(first.Cells)
	_, _ = append(first.Stack, 1, 2, 3), append(first.Cells, 1, 2, 3)
	other, _ := Load(storing, 0, 2)
	for _, o := range []api.Outcome{second, c.Run(wide, 100), other.Run(wide, 100)} {
		if !sameOutcome(o, want) {
			t.Errorf("P2: when an outcome is written into, another is %v, want %v", o, want)
		}
	}
	if l, entry := c.List(); !slices.Equal(l, storing) || entry != 0 {
		t.Errorf("P2: when an outcome is written into, the list is %v, %d", l, entry)
	}
}

func TestP2ARunChangesNothingOfItsCode(t *testing.T) {
	for _, o := range allOptions() {
		checkUnchanged(t, o)
	}
}

func checkUnchanged(t *testing.T, o api.Options) {
	t.Helper()
	text := "variable x variable y : f x @ 1 + dup x ! y ! ; f f 5 >r x @ dup . 60 5 + emit"
	c := compiledWith(t, text, o)
	list, entry := c.List()
	want := c.Run(wide, 1000)
	if want.Err != api.OK || want.Output != "2 A" || !slices.Equal(want.Cells, row{2, 2}) {
		t.Fatalf("P7: %v", want)
	}
	// Runs that end in other ways leave nothing behind either.
	tight := api.Limits{Stack: 1, Aside: 1, Calls: 1, Output: 1}
	for fuel := range 40 {
		c.Run(wide, fuel)
		c.Run(tight, fuel)
		c.Run(api.Limits{}, fuel)
		if got := c.Run(wide, 1000); !sameOutcome(got, want) {
			t.Fatalf("P2: with %+v behind runs with fuel %d: %v, want %v", o, fuel, got, want)
		}
		if l, at := c.List(); !slices.Equal(l, list) || at != entry {
			t.Fatalf("P2: with %+v behind runs with fuel %d: %v, %d", o, fuel, l, at)
		}
	}
	if got := compiledWith(t, text, o).Run(wide, 1000); !sameOutcome(got, want) {
		t.Errorf("P2: the same text compiled again with %+v: %v, want %v", o, got, want)
	}
}

func TestP2RunsAtTheSameTime(t *testing.T) {
	c := compiledWith(t, "variable x 200 0 do x @ i + x ! loop x @ dup .", api.Options{Fold: true, Tail: true, Super: true})
	want := c.Run(wide, 10000)
	outcomes := make([]api.Outcome, 8)
	var all sync.WaitGroup
	for i := range outcomes {
		all.Go(func() { outcomes[i] = c.Run(wide, 10000) })
	}
	all.Wait()
	for _, o := range outcomes {
		if !sameOutcome(o, want) || o.Output != "19900 " {
			t.Errorf("P2: %v, want %v", o, want)
		}
	}
}
