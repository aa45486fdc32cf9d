package fathom

import (
	"slices"
	"strings"
	"testing"

	"fathom/api"
)

func namesOne(op int) bool {
	return op == api.Jump || op == api.Jumpz || op == api.Call || op == api.Loop
}

// partsOf answers what an instruction stands for: the Lit among it with its number.
func partsOf(in api.Instr) instrs {
	if several[in.Op] == nil {
		return instrs{in}
	}
	var l instrs
	for _, n := range several[in.Op] {
		l = append(l, op(n))
		if n == api.Lit {
			l[len(l)-1].Arg = in.Arg
		}
	}
	return l
}

// spread answers the code in which each instruction is replaced by what it stands for, with the new numbers, and where
// in it each one's first part is.
func spread(l instrs, entry int) (instrs, int, []int) {
	var whole instrs
	var firsts []int
	for _, in := range l {
		firsts = append(firsts, len(whole))
		whole = append(whole, partsOf(in)...)
	}
	for i, in := range whole {
		if namesOne(in.Op) {
			whole[i].Arg = int64(firsts[in.Arg])
		}
	}
	return whole, firsts[entry], firsts
}

// bounds answers where the blocks of code that has no instructions for several begin, and, last, its size.
func bounds(l instrs, entry int) []int {
	at := []int{0, entry, len(l)}
	for i, in := range l {
		switch in.Op {
		case api.Jump, api.Jumpz, api.Call, api.Loop:
			at = append(at, int(in.Arg), i+1)
		case api.Ret, api.Halt:
			// Behind a Ret is also where the next definition, or the main part, begins.
			at = append(at, i+1)
		}
	}
	slices.Sort(at)
	return slices.Compact(at)
}

// fewest answers by how few instructions a row can be said: which places so many of them may reach, one more each time.
func fewest(row instrs) int {
	at := []int{0}
	for n := 0; ; n++ {
		if slices.Contains(at, len(row)) {
			return n
		}
		var next []int
		for _, k := range at {
			next = append(next, k+1)
			for one := range several {
				if parts := partsOf(op(one)); k+len(parts) <= len(row) && sameOps(parts, row[k:k+len(parts)]) {
					next = append(next, k+len(parts))
				}
			}
		}
		slices.Sort(next)
		at = slices.Compact(next)
	}
}

func sameOps(a, b instrs) bool {
	return slices.EqualFunc(a, b, func(x, y api.Instr) bool { return x.Op == y.Op })
}

// checkMerged holds a text's code with Super against that without, with Tail and without, and answers how many
// instructions it saves.
func checkMerged(t *testing.T, text string) int {
	t.Helper()
	saved := 0
	for _, tail := range []bool{false, true} {
		want, wantEntry := compiledWith(t, text, api.Options{Tail: tail}).List()
		got, entry := compiledWith(t, text, api.Options{Tail: tail, Super: true}).List()
		whole, wholeEntry, firsts := spread(got, entry)
		if !slices.Equal(whole, want) || wholeEntry != wantEntry {
			t.Fatalf("P5: %.200q: %s, %d: that is %s, %d, want %s, %d", text, brief(got), entry, brief(whole), wholeEntry, brief(want), wantEntry)
		}
		at := bounds(want, wantEntry)
		for i, from := range at[:len(at)-1] {
			first, isOne := slices.BinarySearch(firsts, from)
			if !isOne {
				t.Fatalf("P5: %.200q: %s: the block at %d begins within an instruction", text, brief(got), from)
			}
			behind, _ := slices.BinarySearch(firsts, at[i+1])
			if must := fewest(want[from:at[i+1]]); behind-first != must {
				t.Fatalf("P5: %.200q: %s: the block at %d has %d instructions, want %d", text, brief(got), from, behind-first, must)
			}
		}
		saved += len(want) - len(got)
	}
	return saved
}

func TestP5DocumentsExamples(t *testing.T) {
	checkListingsWith(t, api.Options{Super: true},
		listing{"1 2 + .", instrs{lit(1), to(api.LitAdd, 2), op(api.Dot), halt}, 0},
		listing{"drop dup 1 = .", instrs{op(api.Drop), to(api.DupLitEqual, 1), op(api.Dot), halt}, 0})
}

func TestP5EachThatStandsForSeveral(t *testing.T) {
	for text, want := range map[string]api.Instr{
		"-5 +": to(api.LitAdd, -5), "6 -": to(api.LitSub, 6), "7 *": to(api.LitMul, 7), "8 <": to(api.LitLess, 8), "9 @": to(api.LitFetch, 9),
		"10 !": to(api.LitStore, 10), "11 + @": to(api.LitAddFetch, 11), "dup @": op(api.DupFetch), "dup *": op(api.DupMul),
		"dup dup": op(api.DupDup), "dup over": op(api.DupOver), "dup -9223372036854775808 =": to(api.DupLitEqual, least), "drop drop": op(api.DropDrop),
		"drop dup": op(api.DropDup), "swap drop": op(api.SwapDrop), "swap over": op(api.SwapOver), "over over": op(api.OverOver),
		"over +": op(api.OverAdd), "over over <": op(api.OverOverLess), "@ +": op(api.FetchAdd),
	} {
		checkListingsWith(t, api.Options{Super: true}, listing{text, instrs{want, halt}, 0},
			listing{": a " + text + " ; a . " + text, instrs{want, ret, to(api.Call, 0), op(api.Dot), want, halt}, 2})
	}
	// None of these is one.
	for _, text := range strings.Split("1 2,1 /,1 =,1 and,dup +,dup -,dup !,dup drop,dup swap,drop swap,drop over,swap swap,swap dup,over *,over @,over <,over dup,@ *,@ @,! @,rot rot,+ @,+ +,1 >r", ",") {
		if l, _ := compiledWith(t, text, api.Options{Super: true}).List(); len(l) != 3 {
			t.Errorf("P5: %q: %v", text, l)
		}
	}
}

// Rows in which taking the first that fits, or the longest one, has more instructions than must be.
func TestP5WhatFitsFirstIsNotAlwaysTaken(t *testing.T) {
	for text, n := range map[string]int{
		"drop dup 1 =": 2, "dup dup dup": 2, "dup dup dup dup": 2, "dup dup 1 =": 2, "drop drop dup": 2, "drop drop dup 1 =": 2,
		"swap over over": 2, "swap over over <": 2, "over over over <": 2, "over over over over <": 2, "over over + ": 2, "dup over +": 2, "dup over over <": 2,
		"dup dup over over <": 2, "swap drop dup 1 =": 2, "swap drop drop": 2, "1 + @ +": 2, "0 1 + @ +": 3, "dup @ +": 2, "dup dup @ +": 2, "5 @ + @ +": 3, "5 @ 1 + @ +": 3,
		"dup over over over <": 2, "dup dup over + over over": 3, "over over over +": 2, "over over over over +": 3, "drop dup dup *": 2, "drop dup dup dup *": 3,
	} {
		if l, _ := compiledWith(t, text, api.Options{Super: true}).List(); len(l) != n+1 {
			t.Errorf("P5: %q: %v, want %d and Halt", text, l, n)
		}
		checkMerged(t, text)
	}
}

func TestP5BlocksStayApart(t *testing.T) {
	super := api.Options{Super: true}
	checkListingsWith(t, super,
		listing{"dup begin dup until", instrs{op(api.Dup), op(api.Dup), to(api.Jumpz, 1), halt}, 0},
		listing{"dup dup begin dup dup until dup dup", instrs{op(api.DupDup), op(api.DupDup), to(api.Jumpz, 1), op(api.DupDup), halt}, 0},
		listing{"dup if dup then dup", instrs{op(api.Dup), to(api.Jumpz, 3), op(api.Dup), op(api.Dup), halt}, 0},
		listing{"if 1 + else 2 + then 3 +", instrs{to(api.Jumpz, 3), to(api.LitAdd, 1), to(api.Jump, 4), to(api.LitAdd, 2), to(api.LitAdd, 3), halt}, 0},
		listing{"do 1 + loop 2 +", instrs{op(api.Do), to(api.LitAdd, 1), to(api.Loop, 1), to(api.LitAdd, 2), halt}, 0},
		listing{"begin 1 + while 2 + repeat 3 +", instrs{to(api.LitAdd, 1), to(api.Jumpz, 4), to(api.LitAdd, 2), to(api.Jump, 0), to(api.LitAdd, 3), halt}, 0},
		listing{"1 do + loop", instrs{lit(1), op(api.Do), op(api.Add), to(api.Loop, 2), halt}, 0},
		listing{"1 begin + until", instrs{lit(1), op(api.Add), to(api.Jumpz, 1), halt}, 0},
		listing{": a 1 + ; : b dup * ; 2 + a b", instrs{to(api.LitAdd, 1), ret, op(api.DupMul), ret, to(api.LitAdd, 2), to(api.Call, 0), to(api.Call, 2), halt}, 4},
		listing{": a 1 + ; 2 a +", instrs{to(api.LitAdd, 1), ret, lit(2), to(api.Call, 0), op(api.Add), halt}, 2})
	checkListingsWith(t, api.Options{Super: true, Tail: true},
		listing{": a 1 + ; : b dup * a ; b", instrs{to(api.LitAdd, 1), ret, op(api.DupMul), to(api.Jump, 0), ret, to(api.Call, 2), halt}, 5})
}

var mergingWords = strings.Fields("1 -2 + - * < @ ! dup over = drop swap")

func TestP5EveryShortRow(t *testing.T) {
	texts := []string{""}
	for range 3 {
		for _, text := range texts {
			for _, word := range mergingWords {
				texts = append(texts, text+" "+word)
			}
		}
		slices.Sort(texts)
		texts = slices.Compact(texts)
	}
	for _, text := range texts {
		checkMerged(t, text)
	}
}

// merging answers words of which many may be put together, now and then in structures.
func merging(c *chance, depth int) string {
	var b strings.Builder
	for range c.below(12) {
		kind := c.below(20)
		if depth == 0 || kind > 4 {
			b.WriteString(mergingWords[c.below(len(mergingWords))] + " ")
			continue
		}
		inner, other := merging(c, depth-1), merging(c, depth-1)
		b.WriteString([]string{
			"if " + inner + "then ", "if " + inner + "else " + other + "then ", "begin " + inner + "until ",
			"begin " + inner + "while " + other + "repeat ", "do " + inner + "loop "}[kind])
	}
	return b.String()
}

func TestP5LongRows(t *testing.T) {
	c := &chance{11}
	saved := 0
	for range 300 {
		saved += checkMerged(t, merging(c, 0)+merging(c, 0)+merging(c, 0))
	}
	if saved < 1000 {
		t.Errorf("only %d instructions were saved", saved)
	}
	checkMerged(t, strings.Repeat("drop dup 1 = ", 150))
	checkMerged(t, strings.Repeat("dup ", 500))
	checkMerged(t, strings.Repeat("over ", 399))
}

func TestP5ProgramsOfEveryShape(t *testing.T) {
	c := &chance{12}
	for range 500 {
		text := ": a " + merging(c, 2) + "; " + merging(c, 1) + ": b a " + merging(c, 1) + []string{"a ", "recurse ", "dup ", ""}[c.below(4)] + "; : c ; " + merging(c, 2) + "a c b"
		if len(text) <= api.MaxText {
			checkMerged(t, text)
		}
	}
	s := &sketch{chance: &chance{13}}
	for range 500 {
		if p := s.program(); len(p.text) <= api.MaxText {
			checkMerged(t, p.text)
		}
	}
}
