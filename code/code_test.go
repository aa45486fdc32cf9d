package code

import (
	"slices"
	"testing"

	"fathom/api"
)

// Load itself is held to P6 by the tests of package fathom.

func TestEachThatStandsForSeveralHasItsParts(t *testing.T) {
	for op, want := range map[int][]int{
		api.LitAdd: {api.Lit, api.Add}, api.LitSub: {api.Lit, api.Sub}, api.LitMul: {api.Lit, api.Mul}, api.LitLess: {api.Lit, api.Less},
		api.LitFetch: {api.Lit, api.Fetch}, api.LitStore: {api.Lit, api.Store}, api.LitAddFetch: {api.Lit, api.Add, api.Fetch},
		api.DupFetch: {api.Dup, api.Fetch}, api.DupMul: {api.Dup, api.Mul}, api.DupDup: {api.Dup, api.Dup}, api.DupOver: {api.Dup, api.Over},
		api.DupLitEqual: {api.Dup, api.Lit, api.Equal}, api.DropDrop: {api.Drop, api.Drop}, api.DropDup: {api.Drop, api.Dup},
		api.SwapDrop: {api.Swap, api.Drop}, api.SwapOver: {api.Swap, api.Over}, api.OverOver: {api.Over, api.Over},
		api.OverAdd: {api.Over, api.Add}, api.OverOverLess: {api.Over, api.Over, api.Less}, api.FetchAdd: {api.Fetch, api.Add},
	} {
		if got := Parts(op); !slices.Equal(got, want) {
			t.Errorf("operator %d: %v, want %v", op, got, want)
		}
	}
}

func TestNoOtherHasParts(t *testing.T) {
	for op := -3; op < 70; op++ {
		if has := len(Parts(op)) > 0; has != (op >= api.LitAdd && op <= api.LastSuper) {
			t.Errorf("operator %d: %v", op, Parts(op))
		}
	}
}

func TestPartsAreNewMemory(t *testing.T) {
	Parts(api.LitAdd)[0] = 99
	if Parts(api.LitAdd)[0] != api.Lit {
		t.Error("what was handed out ahead is handed out again")
	}
}

func TestNamesInstruction(t *testing.T) {
	for op := -3; op < 70; op++ {
		want := op == api.Jump || op == api.Jumpz || op == api.Call || op == api.Loop
		if NamesInstruction(op) != want {
			t.Errorf("operator %d: %v", op, !want)
		}
	}
}

func TestGoesOn(t *testing.T) {
	for op := range api.LastSuper + 1 {
		want := op != api.Jump && op != api.Ret && op != api.Halt
		if GoesOn(op) != want {
			t.Errorf("operator %d: %v", op, !want)
		}
	}
}

func TestAnErrorGivesNoProgram(t *testing.T) {
	p, e := Load([]api.Instr{{Op: api.Lit}}, 0, 5)
	if e != api.ErrCode || p.List != nil || p.Entry != 0 || p.Cells != 0 {
		t.Errorf("%v, %d", p, e)
	}
}
