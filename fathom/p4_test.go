package fathom

import (
	"slices"
	"strconv"
	"strings"
	"testing"

	"fathom/api"
)

type listing struct {
	text  string
	list  instrs
	entry int
}

func checkListings(t *testing.T, l ...listing) {
	t.Helper()
	checkListingsWith(t, api.Options{}, l...)
}

func checkListingsWith(t *testing.T, o api.Options, l ...listing) {
	t.Helper()
	for _, c := range l {
		if got, entry := compiledWith(t, c.text, o).List(); !slices.Equal(got, c.list) || entry != c.entry {
			t.Errorf("P4: %q with %+v: %v, %d, want %v, %d", c.text, o, got, entry, c.list, c.entry)
		}
	}
}

func TestP4DocumentsExamples(t *testing.T) {
	checkListings(t,
		listing{"1 2 + .", instrs{lit(1), lit(2), op(api.Add), op(api.Dot), halt}, 0},
		listing{": sq dup * ; 5 sq .", instrs{op(api.Dup), op(api.Mul), ret, lit(5), to(api.Call, 0), op(api.Dot), halt}, 3},
		listing{": f dup if 1 - recurse then ; 3 f .", instrs{
			op(api.Dup), to(api.Jumpz, 5), lit(1), op(api.Sub), to(api.Call, 0), ret, lit(3), to(api.Call, 0), op(api.Dot), halt}, 6},
		listing{"3 0 do i . loop", instrs{lit(3), lit(0), op(api.Do), op(api.Index), op(api.Dot), to(api.Loop, 3), halt}, 0})
}

func TestP4Operators(t *testing.T) {
	for token, n := range map[string]int{
		"+": api.Add, "-": api.Sub, "*": api.Mul, "/": api.Div, "mod": api.Mod, "and": api.And, "or": api.Or, "xor": api.Xor,
		"invert": api.Invert, "negate": api.Negate, "=": api.Equal, "<": api.Less, "dup": api.Dup, "drop": api.Drop, "swap": api.Swap,
		"over": api.Over, "rot": api.Rot, ">r": api.Aside, "r>": api.Back, "r@": api.Look, "!": api.Store, "@": api.Fetch,
		"emit": api.Emit, ".": api.Dot, "i": api.Index,
	} {
		checkListings(t,
			listing{token, instrs{op(n), halt}, 0},
			listing{": a " + token + " ; 1 " + token, instrs{op(n), ret, lit(1), op(n), halt}, 2})
	}
}

func TestP4Numbers(t *testing.T) {
	checkListings(t,
		listing{"", instrs{halt}, 0},
		listing{" \n\n ", instrs{halt}, 0},
		listing{"\n0 -0 007\n-012  ", instrs{lit(0), lit(0), lit(7), lit(-12), halt}, 0},
		listing{"9223372036854775807 -9223372036854775808", instrs{lit(1<<63 - 1), lit(-1 << 63), halt}, 0},
		listing{strings.Repeat("0", 1000) + "5", instrs{lit(5), halt}, 0})
}

func TestP4Names(t *testing.T) {
	checkListings(t,
		listing{"variable x", instrs{halt}, 0},
		listing{"constant x 5", instrs{halt}, 0},
		listing{": a ;", instrs{ret, halt}, 1},
		listing{"variable x x x", instrs{lit(0), lit(0), halt}, 0},
		listing{"variable x 1 variable y constant c 9 variable z z y x c", instrs{lit(1), lit(2), lit(1), lit(0), lit(9), halt}, 0},
		listing{"constant least -9223372036854775808 constant most 9223372036854775807 most least", instrs{lit(1<<63 - 1), lit(-1 << 63), halt}, 0},
		listing{"variable x constant c -3 : a c x ! ; a", instrs{lit(-3), lit(0), op(api.Store), ret, to(api.Call, 0), halt}, 4},
		listing{"constant +5 6 +5 5", instrs{lit(6), lit(5), halt}, 0},
		listing{": 9223372036854775808 1 ; 9223372036854775808", instrs{lit(1), ret, to(api.Call, 0), halt}, 2},
		listing{": \t 1 ; \t", instrs{lit(1), ret, to(api.Call, 0), halt}, 2})
}

func TestP4Definitions(t *testing.T) {
	checkListings(t,
		listing{"1 : a 2 ; 3 : b a 4 ; 5 b a", instrs{
			lit(2), ret, to(api.Call, 0), lit(4), ret, lit(1), lit(3), lit(5), to(api.Call, 2), to(api.Call, 0), halt}, 5},
		listing{": a 1 ; : b recurse a recurse ; b", instrs{
			lit(1), ret, to(api.Call, 2), to(api.Call, 0), to(api.Call, 2), ret, to(api.Call, 2), halt}, 6},
		listing{": a ; : b ; : c ; c b a", instrs{ret, ret, ret, to(api.Call, 2), to(api.Call, 1), to(api.Call, 0), halt}, 3},
		listing{": a begin recurse until ;", instrs{to(api.Call, 0), to(api.Jumpz, 0), ret, halt}, 3})
}

func TestP4Structures(t *testing.T) {
	checkListings(t,
		listing{"if then", instrs{to(api.Jumpz, 1), halt}, 0},
		listing{"9 if 1 then 2", instrs{lit(9), to(api.Jumpz, 3), lit(1), lit(2), halt}, 0},
		listing{"if else then", instrs{to(api.Jumpz, 2), to(api.Jump, 2), halt}, 0},
		listing{"9 if 1 else 2 then 3", instrs{lit(9), to(api.Jumpz, 4), lit(1), to(api.Jump, 5), lit(2), lit(3), halt}, 0},
		listing{"begin until", instrs{to(api.Jumpz, 0), halt}, 0},
		listing{"9 begin 1 until 2", instrs{lit(9), lit(1), to(api.Jumpz, 1), lit(2), halt}, 0},
		listing{"begin while repeat", instrs{to(api.Jumpz, 2), to(api.Jump, 0), halt}, 0},
		listing{"9 begin 1 while 2 repeat 3", instrs{lit(9), lit(1), to(api.Jumpz, 5), lit(2), to(api.Jump, 1), lit(3), halt}, 0},
		listing{"do loop", instrs{op(api.Do), to(api.Loop, 1), halt}, 0},
		listing{"9 do 1 loop 2", instrs{lit(9), op(api.Do), lit(1), to(api.Loop, 2), lit(2), halt}, 0})
}

func TestP4StructuresBehindDefinitions(t *testing.T) {
	checkListings(t,
		listing{": a if 1 else 2 then ; : b do i loop ; if b else a then begin a while b repeat begin a until do b loop", instrs{
			to(api.Jumpz, 3), lit(1), to(api.Jump, 4), lit(2), ret,
			op(api.Do), op(api.Index), to(api.Loop, 6), ret,
			to(api.Jumpz, 12), to(api.Call, 5), to(api.Jump, 13), to(api.Call, 0),
			to(api.Call, 0), to(api.Jumpz, 17), to(api.Call, 5), to(api.Jump, 13),
			to(api.Call, 0), to(api.Jumpz, 17),
			op(api.Do), to(api.Call, 5), to(api.Loop, 20), halt}, 9},
		// The main part's first instructions are numbered anew by a definition that comes later.
		listing{"if 1 then begin 2 until : a 3 ; do a loop", instrs{
			lit(3), ret, to(api.Jumpz, 4), lit(1), lit(2), to(api.Jumpz, 4), op(api.Do), to(api.Call, 0), to(api.Loop, 7), halt}, 2})
}

// sketch writes a text and, beside it, the code that the document gives for it, structure by structure.
type sketch struct {
	chance *chance
	words  []int64
}

// shifted answers a block's code with its jumps moved; calls name definitions, which do not move with it.
func shifted(l instrs, by int) instrs {
	l = slices.Clone(l)
	for i := range l {
		switch l[i].Op {
		case api.Jump, api.Jumpz, api.Loop:
			l[i].Arg += int64(by)
		}
	}
	return l
}

// block answers elements and their code, numbered from 0 on.
func (s *sketch) block(depth int) (string, instrs) {
	var text string
	var code instrs
	for range s.chance.below(4) {
		more, l := s.element(depth)
		text += more + " "
		code = append(code, shifted(l, len(code))...)
	}
	return text, code
}

func (s *sketch) element(depth int) (string, instrs) {
	kinds := 8
	if depth == 0 {
		kinds = 3
	}
	a, la := "", instrs(nil)
	b, lb := "", instrs(nil)
	if depth > 0 {
		a, la = s.block(depth - 1)
		b, lb = s.block(depth - 1)
	}
	na, nb := len(la), len(lb)
	switch s.chance.below(kinds) {
	case 0:
		n := s.chance.below(2000) - 1000
		return strconv.Itoa(n), instrs{lit(int64(n))}
	case 1:
		return "rot", instrs{op(api.Rot)}
	case 2:
		if len(s.words) == 0 {
			return "i", instrs{op(api.Index)}
		}
		k := s.chance.below(len(s.words))
		return "w" + strconv.Itoa(k), instrs{to(api.Call, s.words[k])}
	case 3:
		return "if " + a + "then", slices.Concat(instrs{to(api.Jumpz, int64(na+1))}, shifted(la, 1))
	case 4:
		return "if " + a + "else " + b + "then", slices.Concat(instrs{to(api.Jumpz, int64(na+2))}, shifted(la, 1),
			instrs{to(api.Jump, int64(na+nb+2))}, shifted(lb, na+2))
	case 5:
		return "begin " + a + "until", slices.Concat(la, instrs{to(api.Jumpz, 0)})
	case 6:
		return "begin " + a + "while " + b + "repeat", slices.Concat(la, instrs{to(api.Jumpz, int64(na+nb+2))}, shifted(lb, na+1), instrs{to(api.Jump, 0)})
	}
	return "do " + a + "loop", slices.Concat(instrs{op(api.Do)}, shifted(la, 1), instrs{to(api.Loop, 1)})
}

func (s *sketch) program() listing {
	s.words = nil
	var text string
	var definitions, main instrs
	for k := range s.chance.below(4) {
		ahead, l := s.block(2)
		main = append(main, shifted(l, len(main))...)
		body, l := s.block(3)
		text += ahead + ": w" + strconv.Itoa(k) + " " + body + "; "
		s.words = append(s.words, int64(len(definitions)))
		definitions = append(append(definitions, shifted(l, len(definitions))...), ret)
	}
	last, l := s.block(3)
	main = append(append(main, shifted(l, len(main))...), halt)
	entry := len(definitions)
	return listing{text + last, append(definitions, shifted(main, entry)...), entry}
}

func TestP4ProgramsOfEveryShape(t *testing.T) {
	s := &sketch{chance: &chance{4}}
	checked := 0
	for range 3000 {
		if p := s.program(); len(p.text) <= api.MaxText {
			checkListings(t, p)
			checked++
		}
	}
	if checked < 2000 {
		t.Errorf("only %d programs were short enough", checked)
	}
}

func TestP4Tail(t *testing.T) {
	checkListingsWith(t, api.Options{Tail: true},
		listing{"", instrs{halt}, 0},
		listing{": f dup if 1 - recurse then ; 3 f .", instrs{
			op(api.Dup), to(api.Jumpz, 5), lit(1), op(api.Sub), to(api.Jump, 0), ret, lit(3), to(api.Call, 0), op(api.Dot), halt}, 6},
		listing{": a recurse ;", instrs{to(api.Jump, 0), ret, halt}, 2},
		listing{": a ; : b a ; : c b ; c", instrs{ret, to(api.Jump, 0), ret, to(api.Jump, 1), ret, to(api.Call, 3), halt}, 5},
		// Of two calls the second one alone; of none that something stands behind.
		listing{": a ; : b a a ; b b", instrs{ret, to(api.Call, 0), to(api.Jump, 0), ret, to(api.Call, 1), to(api.Call, 1), halt}, 4},
		listing{": a ; : b a 1 ; b", instrs{ret, to(api.Call, 0), lit(1), ret, to(api.Call, 1), halt}, 4},
		// A Jump to a Ret is no Ret.
		listing{": a ; : b if a else a then ;", instrs{
			ret, to(api.Jumpz, 4), to(api.Call, 0), to(api.Jump, 5), to(api.Jump, 0), ret, halt}, 6},
		listing{": a if recurse then ;", instrs{to(api.Jumpz, 2), to(api.Jump, 0), ret, halt}, 3},
		listing{": a begin recurse until ;", instrs{to(api.Call, 0), to(api.Jumpz, 0), ret, halt}, 3},
		listing{": a begin while recurse repeat ;", instrs{to(api.Jumpz, 3), to(api.Call, 0), to(api.Jump, 0), ret, halt}, 4},
		listing{": a do recurse loop ;", instrs{op(api.Do), to(api.Call, 0), to(api.Loop, 1), ret, halt}, 4},
		// The main part ends with a Halt, and definitions written behind it stand ahead of it.
		listing{": a ; a : b a ;", instrs{ret, to(api.Jump, 0), ret, to(api.Call, 0), halt}, 3},
		listing{": a 1 ; : b 2 a ; b begin a until", instrs{lit(1), ret, lit(2), to(api.Jump, 0), ret, to(api.Call, 2), to(api.Call, 0), to(api.Jumpz, 6), halt}, 5})
}

func TestP4TailOnProgramsOfEveryShape(t *testing.T) {
	s := &sketch{chance: &chance{9}}
	calls := 0
	for range 2000 {
		p := s.program()
		if len(p.text) > api.MaxText {
			continue
		}
		for i, in := range p.list {
			if in.Op == api.Call && p.list[i+1] == ret {
				p.list[i] = to(api.Jump, in.Arg)
				calls++
			}
		}
		checkListingsWith(t, api.Options{Tail: true}, p)
	}
	if calls < 100 {
		t.Errorf("only %d calls stood ahead of a Ret", calls)
	}
}

func TestP4TailNeedsNoCalls(t *testing.T) {
	text := ": f dup if 1 - recurse then ; 900 f ."
	l := api.Limits{Stack: 3, Aside: 1, Calls: 1, Output: 10}
	for _, o := range allOptions() {
		want := api.ErrCalls
		if o.Tail {
			want = api.OK
		}
		if got := compiledWith(t, text, o).Run(l, 10000); got.Err != want {
			t.Errorf("P4: %v: %s", o, told(got))
		}
	}
}

func TestP4NoNumberWhereThereIsNone(t *testing.T) {
	s := &sketch{chance: &chance{10}}
	check := func(text string) {
		for _, o := range allOptions() {
			l, _ := compiledWith(t, text, o).List()
			for k, in := range l {
				has := in.Op == api.Lit || in.Op == api.Jump || in.Op == api.Jumpz || in.Op == api.Call || in.Op == api.Loop
				if in.Op <= api.LastBase && !has && in.Arg != 0 {
					t.Fatalf("P4: %q with %+v: instruction %d is %v", text, o, k, in)
				}
			}
		}
	}
	check(": f if 1 else 2 then ; 3 f 4 0 if 5 . then 6 drop -7 invert . 8 9 swap + . begin 1 while 2 drop repeat")
	for range 300 {
		if p := s.program(); len(p.text) <= api.MaxText {
			check(p.text)
		}
	}
}
