package fathom

import (
	"slices"
	"strconv"
	"strings"
	"testing"

	"fathom/api"
)

// shortening has the options that must not be seen.
var shortening = []api.Options{{Fold: true}, {Super: true}, {Fold: true, Super: true}}

// checkUnseen holds runs with options against those without; fuel is as much as the test allows. It answers what the
// run without any comes to, with the last of the limits.
func checkUnseen(t *testing.T, text string, fuel int, limits ...api.Limits) api.Outcome {
	t.Helper()
	var last api.Outcome
	for _, tail := range []bool{true, false} {
		plain := compiledWith(t, text, api.Options{Tail: tail})
		var wants []api.Outcome
		for _, l := range limits {
			last = plain.Run(l, fuel)
			wants = append(wants, last)
		}
		for _, o := range shortening {
			o.Tail = tail
			c := compiledWith(t, text, o)
			for i, l := range limits {
				checkSame(t, text, l, o, c, wants[i])
			}
		}
	}
	return last
}

func checkSame(t *testing.T, text string, l api.Limits, o api.Options, c *Code, want api.Outcome) {
	t.Helper()
	if want.Err == api.ErrFuel {
		checkGoingOn(t, text, l, c, want)
	} else {
		checkSameEnd(t, text, l, o, c, want)
	}
}

// checkSameEnd asks for the same with just as much fuel as was used, and with much more.
func checkSameEnd(t *testing.T, text string, l api.Limits, o api.Options, c *Code, want api.Outcome) {
	t.Helper()
	for _, fuel := range []int{want.Steps, want.Steps + 1000} {
		got := c.Run(l, fuel)
		steps := got.Steps
		got.Steps = want.Steps
		if !sameOutcome(got, want) || steps > want.Steps {
			list, _ := c.List()
			t.Fatalf("P8: %.300q with %v, %+v, fuel %d: %s in %d steps, want %s: %s", text, l, o, fuel, told(got), steps, told(want), brief(list))
		}
	}
}

// checkGoingOn asks, of a run that did not end, that with options it does not either in far fewer steps, and has put
// out the beginning of the same.
func checkGoingOn(t *testing.T, text string, l api.Limits, c *Code, want api.Outcome) {
	t.Helper()
	for _, fuel := range []int{0, 1, 2, 3, 5, 8, 13, want.Steps / 20} {
		got := c.Run(l, fuel)
		if got.Err != api.ErrFuel || got.Steps != fuel || !strings.HasPrefix(want.Output, got.Output) || got.Stack != nil || got.Cells != nil {
			t.Fatalf("P8: %.300q with %v, fuel %d: %s, want what goes on after %s", text, l, fuel, told(got), told(want))
		}
	}
}

func stackOf(n int) api.Limits {
	l := wide
	l.Stack = n
	return l
}

type ending struct {
	text   string
	stack  int // its limit
	e      api.Errno
	output string
	steps  int // of the run without options
}

func checkEndings(t *testing.T, l ...ending) {
	t.Helper()
	for _, c := range l {
		o := checkUnseen(t, c.text, 1000, stackOf(c.stack))
		if o.Err != c.e || o.Output != c.output || o.Steps != c.steps {
			t.Errorf("P7: %q with a stack of %d: %s, want %d, %q, %d steps", c.text, c.stack, told(o), c.e, c.output, c.steps)
		}
	}
}

func TestP8DocumentsExamples(t *testing.T) {
	checkEndings(t,
		ending{"1 2 + .", 1, api.ErrOver, "", 2}, ending{"1 2 + .", 2, api.OK, "3 ", 5},
		ending{": sq dup * ; 5 sq .", 2, api.OK, "25 ", 7}, ending{": sq dup * ; 5 sq .", 1, api.ErrOver, "", 3},
		ending{": f dup if 1 - recurse then ; 3 f .", 9, api.OK, "0 ", 25},
		ending{"3 0 do i . loop", 9, api.OK, "0 1 2 ", 13}, ending{"drop dup 1 = .", 9, api.ErrUnder, "", 1})
	for _, o := range allOptions() {
		if got := compiledWith(t, "1 2 + .", o).Run(stackOf(1), 9); got.Err != api.ErrOver || got.Steps != 2 {
			t.Errorf("P8: with a stack of 1 and %+v: %s", o, told(got))
		}
	}
}

// What needs room, or values, for a moment alone fails without these.
func TestP8RoomForAMoment(t *testing.T) {
	for text, depth := range map[string]int{
		"1 2 +": 2, "1 drop": 1, "1 2 drop drop": 2, "1 2 swap": 2, "1 dup *": 2, "1 2 3 + +": 3, "1 2 + 3 +": 2, "1 2 over drop": 3, "1 negate": 1,
		"4 3 - 2 *": 2, "1 2 3 rot drop": 3, "1 if then": 1, "0 if 1 then": 1, "0 if 5 else 6 then": 1, "1 2 = if 3 then": 2, "begin 1 until": 1,
		"1 2 + 3": 2, "1 2 + dup": 2, "1 2 + dup dup": 3, "1 2 + 3 4 +": 3, "7 0 + 0 - 1 *": 2, "1 2 + negate 3": 2, "1 dup drop": 2,
		"5 1 + 2 +": 2, "5 1 2 + +": 3, "1 2 swap swap": 2, "65 emit 1 2 +": 2, "65 emit 1 2 + drop": 2, "1 >r 1 2 + r@": 2, "1 >r 1 2 + i +": 2,
	} {
		for limit := 1; limit <= depth+2; limit++ {
			o := checkUnseen(t, text, 1000, stackOf(limit))
			if (o.Err == api.ErrOver) != (limit < depth) || (o.Err == api.OK) != (limit >= depth) {
				t.Errorf("P7: %q with a stack of %d: %s", text, limit, told(o))
			}
			// The same on values that are known to nobody ahead of the run.
			checkUnseen(t, ": f "+text+" ; 7 8 f .", 1000, stackOf(limit+1))
			checkUnseen(t, ": f "+text+" . "+text+" ; 7 8 f . f", 1000, stackOf(limit+2))
		}
	}
}

func TestP8ValuesForAMoment(t *testing.T) {
	for text, takes := range map[string]int{
		"swap swap": 2, "invert invert": 1, "negate negate": 1, "rot rot rot": 3, "dup drop": 1, "over drop": 2, "0 +": 1, "0 -": 1, "1 *": 1, "1 /": 1,
		"0 or": 1, "0 xor": 1, "-1 and": 1, "swap +": 2, "swap *": 2, "swap =": 2, "dup swap": 1, "negate +": 2, "negate -": 2, "1 + 2 +": 1, "1 - 2 -": 1,
		"swap swap +": 2, "swap swap .": 2, "invert invert .": 1, "rot rot rot + +": 3, "0 + .": 1, "swap swap drop drop": 2, "swap swap dup": 2, "over drop over": 2,
	} {
		for _, ahead := range []string{"", "65 emit ", "65 emit 1 drop "} {
			for values := range 5 {
				given := strings.Repeat("7 ", values)
				for limit := 1; limit < values+3; limit++ {
					o := checkUnseen(t, ": f "+text+" 66 emit ; "+ahead+given+"f", 1000, stackOf(limit))
					if limit > values+1 && (o.Err == api.ErrUnder) != (values < takes) {
						t.Errorf("P7: %q on %d values with a stack of %d: %s", text, values, limit, told(o))
					}
					checkUnseen(t, ahead+given+text+" 66 emit", 1000, stackOf(limit))
				}
			}
		}
	}
}

func TestP8WhatWasPutOutAheadOfAnError(t *testing.T) {
	checkEndings(t,
		ending{"65 emit 5 0 / 66 emit", 9, api.ErrDivide, "A", 5}, ending{"65 emit 5 0 mod 66 emit", 9, api.ErrDivide, "A", 5},
		ending{"1 . 1 2 + . 5 0 / .", 9, api.ErrDivide, "1 3 ", 9}, ending{"1 2 + . 9 @ .", 9, api.ErrAddr, "3 ", 6},
		ending{"variable x 1 x ! x @ . 1 1 + @", 9, api.ErrAddr, "1 ", 10}, ending{"1 . +", 9, api.ErrUnder, "1 ", 3},
		ending{"1 . 2 +", 9, api.ErrUnder, "1 ", 4}, ending{"1 . 1 2 3", 2, api.ErrOver, "1 ", 5}, ending{"1 2 + 3 + . 4 5 6 +", 2, api.ErrOver, "6 ", 9},
		ending{"1 . r>", 9, api.ErrLow, "1 ", 3}, ending{"1 2 + . i", 9, api.ErrLow, "3 ", 5})
	// The same where the output, what lies aside or the calls come to their limit.
	for _, text := range []string{
		"1 2 + . 3 4 + .", "65 emit 1 drop 66 emit 67 emit", "1 2 + >r 3 4 + >r 65 emit 5 >r", ": f 65 emit 1 2 + drop ; : g f f ; : h g 66 emit ; h f",
		": f dup if dup . 1 - recurse then ; 5 f", "1 2 + 3 0 do i . loop .", "5 0 do 5 0 do 65 emit loop 66 emit loop", ": f 65 emit ; : g 5 0 do f loop ; g",
	} {
		for n := 1; n < 12; n++ {
			checkUnseen(t, text, 1000, api.Limits{Stack: 9, Aside: 9, Calls: 9, Output: n}, api.Limits{Stack: 9, Aside: n, Calls: 9, Output: 99},
				api.Limits{Stack: 9, Aside: 9, Calls: n, Output: 99}, api.Limits{Stack: n, Aside: 9, Calls: 9, Output: 99})
		}
	}
}

// Every two words in a row, on values and limits of several kinds; more of them by chance.
func TestP8EveryShortRow(t *testing.T) {
	words := strings.Fields("0 1 -1 3 + - * / mod and or xor invert negate = < dup drop swap over rot >r r> r@ i @ ! . emit")
	var limits []api.Limits
	for _, n := range []int{1, 2, 3, 4, 6} {
		limits = append(limits, api.Limits{Stack: n, Aside: 2, Calls: 2, Output: 12})
	}
	given := []string{"", "3 -7 ", "6 -3 4 1 "}
	check := func(row string) {
		for _, values := range given {
			checkUnseen(t, "variable v : f "+row+"; 9 >r "+values+"f .", 50, limits...)
		}
		// What is done ahead may be known to leave room and values.
		checkUnseen(t, "variable v : f + dup "+row+"; 6 -3 4 1 f", 50, limits...)
	}
	for _, a := range words {
		for _, b := range words {
			check(a + " " + b + " ")
		}
	}
	c := &chance{18}
	for range 300 {
		row := ""
		for range 3 + c.below(3) {
			row += words[c.below(len(words))] + " "
		}
		check(row)
	}
}

// Numbers are reckoned ahead as the machine reckons them. The room that is asked for is there: it was used ahead.
func TestP8NumbersReckonedAhead(t *testing.T) {
	numbers := []string{"0", "1", "-1", "2", "3", "-3", "7", "-7", "256", "4294967296", "9223372036854775807", "-9223372036854775808", "-9223372036854775807"}
	for _, a := range numbers {
		for _, b := range numbers {
			for _, word := range strings.Fields("+ - * / mod and or xor = <") {
				checkUnseen(t, "1 2 3 4 drop drop drop . "+a+" "+b+" "+word+" . "+a+" "+word+" "+b+" "+word, 100, wide)
				// A chain of two, on a value that is not known.
				checkUnseen(t, ": f "+a+" "+word+" "+b+" "+word+" . ; 7 f -7 f 9223372036854775807 f -9223372036854775808 f", 100, wide)
			}
		}
		for _, word := range strings.Fields("invert negate dup drop") {
			checkUnseen(t, a+" "+word+" "+a+" "+word, 100, wide)
		}
		for _, words := range []string{"+ %s -", "- %s +", "+ %s +", "- %s -"} {
			for _, b := range numbers {
				row := strings.Replace(words, "%s", b, 1)
				checkUnseen(t, ": f "+a+" "+row+" . ; 7 f -9223372036854775808 f", 100, wide)
			}
		}
	}
	checkEndings(t,
		ending{"1 2 . . 9223372036854775807 1 + .", 9, api.OK, "2 1 -9223372036854775808 ", 9},
		ending{"1 2 . . -9223372036854775808 -1 / .", 9, api.OK, "2 1 -9223372036854775808 ", 9},
		ending{"1 2 . . -9223372036854775808 -1 mod .", 9, api.OK, "2 1 0 ", 9},
		ending{"1 2 . . -7 2 / . -7 2 mod .", 9, api.OK, "2 1 -4 1 ", 13}, ending{"1 2 . . 7 -2 / . 7 -2 mod .", 9, api.OK, "2 1 -4 -1 ", 13},
		ending{"1 2 . . 5 0 / .", 9, api.ErrDivide, "2 1 ", 7}, ending{"1 2 . . -9223372036854775808 negate .", 9, api.OK, "2 1 -9223372036854775808 ", 8})
}

// checkEndless asks that a run does not end with these options, though it has more steps than that without any had, and
// puts out what that has put out ahead of going round.
func checkEndless(t *testing.T, text, output string, options ...api.Options) {
	t.Helper()
	for _, o := range options {
		if got := compiledWith(t, text, o).Run(wide, 50000); !sameOutcome(got, api.Outcome{Err: api.ErrFuel, Output: output, Steps: 50000}) {
			t.Errorf("P8: %q with %+v: %s", text, o, told(got))
		}
	}
}

func TestP8RunsThatDoNotEnd(t *testing.T) {
	for _, text := range []string{
		"begin 0 until", "begin 1 while repeat", "begin 1 2 + while repeat", "begin 1 drop 0 until", "begin begin 0 until 0 until", "begin 1 while 0 if 1 then repeat",
		"65 emit begin 0 until", "1 2 + . begin 66 drop 0 until", "5 begin 1 + dup drop 0 until", "begin 0 if else then 0 until", "begin 1 if begin 0 until then 0 until",
		"1 1 do loop", "65 emit 0 1 do 3 drop loop 66 emit", ": f 1 . begin 0 until ; f", ": f begin 1 while repeat ; : g 7 . f ; g", "0 0 begin swap swap 0 until",
		"65 emit 66 emit begin 1 if else 67 emit then 0 until 68 emit", "5 . begin 1 begin 1 while repeat 0 until", ": f begin 0 until ; : g begin f 0 until ; 1 . g 2 .",
	} {
		o := checkUnseen(t, text, 20000, wide)
		if o.Err != api.ErrFuel {
			t.Errorf("P7: %q: %s", text, told(o))
		}
		checkEndless(t, text, o.Output, shortening...)
		// Without the room that a step of it needs it ends with an error, with whatever options.
		for limit := 1; limit < 5; limit++ {
			checkUnseen(t, text, 20000, stackOf(limit))
		}
	}
	// With Tail calls need no end either.
	for _, text := range []string{": f recurse ; f", ": f 65 emit 1 drop begin 0 until recurse ; f", ": f 1 2 + drop recurse ; 7 . f", ": f 1 if recurse then ; f"} {
		checkUnseen(t, text, 20000, wide)
		o := compiledWith(t, text, api.Options{Tail: true}).Run(wide, 20000)
		checkEndless(t, text, o.Output, api.Options{Tail: true, Fold: true}, api.Options{Tail: true, Super: true}, api.Options{Tail: true, Fold: true, Super: true})
	}
}

// Tail is not done to a call that only Fold lets stand ahead of a Ret.
func TestP8CallsStayAsDeep(t *testing.T) {
	for _, text := range []string{
		": a ; : b a 0 if 1 then ; 1 . b", ": a ; : b . a 1 drop ; 1 b", ": a 1 . ; : b if a else a then ; 0 b 1 b", ": f dup . dup if 1 - recurse 1 drop then ; 9 f",
		": a ; : b . a 0 if begin 0 until then ; 1 b", ": a 65 emit ; : b a a ; : c b b ; : d c c ; d",
	} {
		for calls := 1; calls < 12; calls++ {
			checkUnseen(t, text, 1000, api.Limits{Stack: 9, Aside: 9, Calls: calls, Output: 99})
		}
	}
}

// random answers elements of every kind, mostly such as can be made shorter, with n words to call.
func random(c *chance, depth, n int) string {
	rows := strings.Split("1 2 +,5 0 /,swap swap,1 drop,drop dup 1 =,swap over over <,invert invert,0 @ 1 + 0 !,4 3 - 2 *,dup drop,1 0 if,1 1 if,"+
		"0 +,1 *,1 + 2 +,3 - 1 +,rot rot rot,over drop,dup swap,swap +,negate -,dup *,1 2 + 3,dup if,1 2 3 drop drop drop,. 0 if,. 1 if,6 emit 0 if,>r r>,2 dup", ",")
	words := strings.Fields("0 1 2 -1 3 -9223372036854775808 9223372036854775807 + - * / mod and or xor invert negate = < dup drop swap over rot >r r> r@ i @ ! . emit")
	var b strings.Builder
	for range c.below(9) {
		inner, other := "", ""
		kind := c.below(30)
		if depth > 0 && kind < 6 {
			inner, other = random(c, depth-1, n), random(c, depth-1, n)
		}
		switch {
		case depth > 0 && kind < 5:
			b.WriteString([]string{
				"if " + inner + "then ", "if " + inner + "else " + other + "then ", "begin " + inner + "1 - dup 0 < until ", "begin " + inner + "while " + other + "repeat ",
				"2 0 do " + inner + "loop "}[kind])
		case n > 0 && kind < 8:
			b.WriteString("w" + strconv.Itoa(c.below(n)) + " ")
		case kind < 16:
			row := rows[c.below(len(rows))]
			b.WriteString(row + " ")
			if strings.HasSuffix(row, "if") {
				b.WriteString(inner + "then ")
			}
		default:
			b.WriteString(words[c.below(len(words))] + " ")
		}
	}
	return b.String()
}

func TestP8AnyProgram(t *testing.T) {
	c := &chance{14}
	count := map[api.Errno]int{}
	for range 2500 {
		text := "variable v variable w "
		for n := range c.below(4) {
			text += ": w" + strconv.Itoa(n) + " " + random(c, 2, n) + []string{"", "", "recurse "}[c.below(3)] + "; "
			if c.below(4) == 0 {
				text += random(c, 1, n+1)
			}
		}
		words := strings.Count(text, ":")
		text += strings.Repeat("5 ", c.below(5)) + random(c, 2, words) + random(c, 2, words)
		if len(text) > api.MaxText {
			continue
		}
		var limits []api.Limits
		for range 5 {
			limits = append(limits, api.Limits{Stack: 1 + c.below(10), Aside: 1 + c.below(5), Calls: 1 + c.below(4), Output: 1 + c.below(20)})
		}
		count[checkUnseen(t, text, 4000, limits...).Err]++
	}
	for _, e := range []api.Errno{api.OK, api.ErrUnder, api.ErrOver, api.ErrLow, api.ErrHigh, api.ErrCalls, api.ErrAddr, api.ErrDivide, api.ErrOutput} {
		if count[e] < 10 {
			t.Errorf("%d came out %d times only", e, count[e])
		}
	}
}

// Whole programs, and what they put out.
func TestP8Programs(t *testing.T) {
	for _, c := range []struct{ text, output string }{
		{"variable n : odd 2 mod ; : step dup odd if 3 * 1 + else 2 / then ; 27 begin dup 1 = invert while step n @ 1 + n ! repeat drop n @ .", "111 "},
		{": gcd begin dup while swap over mod repeat drop ; 1071 462 gcd . 17 5 gcd .", "21 1 "},
		{": fib dup 2 < if else dup 1 - recurse swap 2 - recurse + then ; 15 fib .", "610 "},
		{": fact dup 1 < if drop 1 else dup 1 - recurse * then ; 10 fact . 25 fact .", "3628800 7034535277573963776 "},
		{"constant width 4 3 0 do width 0 do 42 emit loop 10 emit loop", "****\n****\n****\n"},
		{"constant debug 0 : show debug if 1 . then . ; 5 show 6 show", "5 6 "},
		{"variable a variable b 1 a ! 1 b ! 10 0 do a @ dup b @ + a ! b ! loop a @ . b @ .", "144 89 "},
	} {
		o := checkUnseen(t, c.text, 50000, wide)
		if o.Err != api.OK || o.Output != c.output {
			t.Errorf("P7: %q: %s, want %q", c.text, told(o), c.output)
		}
	}
}

func TestP8ASecondRunComesToTheSame(t *testing.T) {
	c := &chance{15}
	for range 200 {
		text := "variable v : w0 " + random(c, 1, 0) + "; 5 6 7 " + random(c, 2, 1)
		if len(text) > api.MaxText {
			continue
		}
		for _, o := range allOptions() {
			x, other := compiledWith(t, text, o), compiledWith(t, text, o)
			list, entry := x.List()
			first := x.Run(wide, 500)
			x.Run(stackOf(1+c.below(5)), c.below(50))
			again, at := x.List()
			if !slices.Equal(list, again) || entry != at || !sameOutcome(x.Run(wide, 500), first) || !sameOutcome(other.Run(wide, 500), first) {
				t.Fatalf("P2: %q with %+v: what comes out changes", text, o)
			}
		}
	}
}

// What List tells is what is run.
func TestP8TheListIsTheCode(t *testing.T) {
	c := &chance{17}
	for range 300 {
		text := "variable v variable w : w0 " + random(c, 1, 0) + "; 5 6 7 " + random(c, 2, 1)
		if len(text) > api.MaxText {
			continue
		}
		for _, o := range allOptions() {
			x := compiledWith(t, text, o)
			list, entry := x.List()
			same, e := Load(list, entry, 2)
			if e != api.OK {
				t.Fatalf("P6: %q with %+v: %s, %d: %d", text, o, brief(list), entry, e)
			}
			l := api.Limits{Stack: 1 + c.below(9), Aside: 1 + c.below(5), Calls: 1 + c.below(3), Output: 1 + c.below(9)}
			if want, got := x.Run(l, 300), same.Run(l, 300); !sameOutcome(want, got) {
				t.Fatalf("P8: %q with %+v: %s, but its list comes to %s", text, o, told(want), told(got))
			}
		}
	}
}
