package fathom

import (
	"slices"
	"testing"

	"fathom/api"
)

const ownText = ": a dup if 1 - recurse then ; variable x 3 a x ! begin x @ while 1 repeat"

// spoil writes into a list and into its spare room.
func spoil(l []api.Instr) {
	l = l[:cap(l)]
	for i := range l {
		l[i] = api.Instr{Op: -1, Arg: -1}
	}
}

func TestP2ListsAreNewMemory(t *testing.T) {
	c := compiled(t, ownText)
	other := compiled(t, ownText)
	first, _ := c.List()
	want := slices.Clone(first)
	second, _ := c.List()
	spoil(first)
	_ = append(first[:1], api.Instr{Op: -2}, api.Instr{Op: -2})
	if !slices.Equal(second, want) {
		t.Errorf("P2: a list that came out ahead is changed: %v", second)
	}
	for _, code := range []*Code{c, other, compiled(t, ownText)} {
		if l, entry := code.List(); !slices.Equal(l, want) || entry != 6 {
			t.Errorf("P2: a list that came out later is changed: %v, %d", l, entry)
		}
	}
}

func TestP2AppendingToAListChangesNoOther(t *testing.T) {
	c := compiled(t, "1 2 3")
	first, _ := c.List()
	second, _ := c.List()
	longer := append(first, lit(7))
	_ = append(second, lit(8))
	if longer[len(longer)-1] != lit(7) {
		t.Errorf("P2: two lists share their spare room: %v", longer)
	}
}

func TestP2TheSameTextGivesTheSame(t *testing.T) {
	want, _ := compiled(t, ownText).List()
	// What was compiled in between, names and errors too, must leave nothing behind.
	for _, between := range []string{"variable y variable z", ": b ; b", "variable x x", "if", ": c 1", ": a ;"} {
		Compile(between, api.Options{})
		if l, entry := compiled(t, ownText).List(); !slices.Equal(l, want) || entry != 6 {
			t.Errorf("P2: behind %q: %v, %d, want %v", between, l, entry, want)
		}
	}
}
