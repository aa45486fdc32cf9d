package compiler

import (
	"slices"
	"strings"
	"testing"

	"fathom/api"
)

func TestVocabularyHasEachTokenOnce(t *testing.T) {
	all := strings.Fields(": ; variable constant recurse + - * / mod and or xor invert negate = < dup drop swap over rot " +
		">r r> r@ ! @ emit . i if then else begin until while repeat do loop")
	var have []string
	for _, m := range vocabulary {
		have = append(have, m.token)
	}
	slices.Sort(all)
	slices.Sort(have)
	if !slices.Equal(all, have) {
		t.Errorf("%q, want %q", have, all)
	}
}

func TestMainIsMovedBehindTheDefinitions(t *testing.T) {
	definitions, main := &part{}, &part{}
	definitions.add(with(api.Call, 0), with(api.Jump, 1), plain(api.Ret))
	main.add(with(api.Lit, 1), with(api.Call, 1), with(api.Jump, 1), with(api.Jumpz, 2), with(api.Loop, 3), plain(api.Halt))
	want := []api.Instr{
		{Op: api.Call, Arg: 0}, {Op: api.Jump, Arg: 1}, {Op: api.Ret},
		{Op: api.Lit, Arg: 1}, {Op: api.Call, Arg: 1}, {Op: api.Jump, Arg: 4}, {Op: api.Jumpz, Arg: 5}, {Op: api.Loop, Arg: 6}, {Op: api.Halt},
	}
	if l := join(definitions, main); !slices.Equal(l, want) {
		t.Errorf("%v, want %v", l, want)
	}
}

func TestEachThingIsClosedByItsOwnTokensAlone(t *testing.T) {
	closers := strings.Fields("; then else until while repeat loop")
	for opening, fitting := range map[string][]string{
		"":            nil,
		": a":         {";"},
		"if":          {"then", "else"},
		"if else":     {"then"},
		"begin":       {"until", "while"},
		"begin while": {"repeat"},
		"do":          {"loop"},
	} {
		for _, closer := range closers {
			// What stands behind is wrong with another error, so that it shows whether the closer was taken.
			text := opening + " " + closer + " nothing"
			_, e, at := Compile(text)
			want, place := api.ErrNest, len(opening)+1
			if slices.Contains(fitting, closer) {
				want, place = api.ErrWord, len(opening)+len(closer)+2
			}
			if e != want || at != place {
				t.Errorf("%q: %d at %d, want %d at %d", text, e, at, want, place)
			}
		}
	}
}

func TestAnErrorGivesNoProgram(t *testing.T) {
	for _, text := range []string{"1 x", "variable y 1 x", "1 : 5", "1 if", ": b ; 1 : a 2", strings.Repeat("1 ", 1001)} {
		if p, e, _ := Compile(text); e == api.OK || p.List != nil || p.Entry != 0 || p.Cells != 0 {
			t.Errorf("%.20q: %v, %d", text, p, e)
		}
	}
}
