package fathom

import (
	"slices"
	"strings"
	"testing"

	"fathom/api"
)

const everyToken = ": ; variable constant recurse + - * / mod and or xor invert negate = < dup drop swap over rot " +
	">r r> r@ ! @ emit . i if then else begin until while repeat do loop"

// soup answers a text of tokens in any order, now and then with a byte of any kind.
func soup(c *chance, tokens []string) string {
	var b strings.Builder
	for range c.below(30) {
		b.WriteString(tokens[c.below(len(tokens))])
		switch c.below(12) {
		case 0:
			b.WriteByte(10)
		case 1:
			b.WriteByte(byte(c.below(256)))
		default:
			b.WriteByte(32)
		}
	}
	return b.String()
}

// checkAnswer holds whatever Compile and List answer against what each answer must be like.
func checkAnswer(t *testing.T, text string, o api.Options) {
	t.Helper()
	c, e, at := Compile(text, o)
	l, entry := c.List()
	if e != api.OK {
		if c != nil || l != nil || entry != 0 {
			t.Fatalf("P1: %q: error %d with code %v, list %v, entry %d", text, e, c != nil, l, entry)
		}
		if e < api.ErrLong || e > api.ErrNest || at < 0 || at > len(text) {
			t.Fatalf("P1: %q: error %d at %d", text, e, at)
		}
		return
	}
	if c == nil || at != 0 {
		t.Fatalf("P1: %q: no error, code %v, place %d", text, c != nil, at)
	}
	if len(l) == 0 || entry < 0 || entry >= len(l) {
		t.Fatalf("P1: %q: entry %d of %d instructions", text, entry, len(l))
	}
	for _, limits := range []api.Limits{wide, {Stack: 1, Aside: 1, Calls: 1, Output: 1}, {Stack: 4, Aside: 3, Calls: 2, Output: 5}} {
		if out := c.Run(limits, 200); out.Steps < 1 || out.Steps > 200 || out.Err != api.OK && out.Err < api.ErrUnder {
			t.Fatalf("P1: %q with %+v: %s", text, o, told(out))
		}
	}
}

func TestP1AnyTextEnds(t *testing.T) {
	tokens := strings.Fields(everyToken + " a b c 5 -7 99999999999999999999 ; then until loop : a : b 1 if begin do")
	c := &chance{1}
	for range 20000 {
		text := soup(c, tokens)
		checkAnswer(t, text, allOptions()[c.below(8)])
	}
}

func TestP1AnyBytesEnd(t *testing.T) {
	c := &chance{2}
	for range 5000 {
		b := make([]byte, c.below(60))
		for i := range b {
			b[i] = byte(c.below(256))
		}
		checkAnswer(t, string(b), allOptions()[c.below(8)])
	}
}

func TestP1GreatTextsEnd(t *testing.T) {
	for _, s := range []string{"if ", "begin ", "do ", "if else ", "begin while ", "1 ", "\x00", ": ", "a ", "variable ", "do loop ", ";", "1 2 + ", "5 drop ", "swap ", "1 + ",
		"dup ", "0 if then ", "begin 0 until ", "1 2 3 rot ", ". 0 if 1 else 2 then "} {
		for _, n := range []int{1998, 1999, 2000, 2001, 100000} {
			for _, o := range allOptions() {
				checkAnswer(t, strings.Repeat(s, n/len(s)+1)[:n], o)
			}
		}
	}
}

func TestP1DeepNestingCompiles(t *testing.T) {
	n := 2000 / len("if then ")
	l, _ := compiled(t, strings.Repeat("if ", n)+strings.Repeat("then ", n)).List()
	for k := range n {
		if l[k] != to(api.Jumpz, int64(n)) {
			t.Fatalf("P1: instruction %d of %d ifs: %v", k, n, l[k])
		}
	}
}

func TestP1TheErrorNamedFirst(t *testing.T) {
	long := strings.Repeat(" ", 1990)
	for _, c := range []struct {
		text string
		e    api.Errno
		at   int
	}{
		{"x : 5 then" + long + " ", api.ErrLong, 0},
		{"then : 5 x" + long + " ", api.ErrLong, 0},
		{"x : 5 then", api.ErrWord, 0},
		{": 5 x then", api.ErrName, 2},
		{"then x : 5", api.ErrNest, 0},
		{"if : 5", api.ErrNest, 3},
		{": a variable 7", api.ErrNest, 4},
		{"if constant", api.ErrNest, 3},
		{"if recurse", api.ErrWord, 3},
		{": a x", api.ErrWord, 4},
		{"begin :", api.ErrNest, 6},
	} {
		refused(t, c.text, c.e, c.at)
	}
}

func TestP1MethodsWithoutCode(t *testing.T) {
	compiled, _, _ := Compile("x", api.Options{})
	loaded, _ := Load(nil, 0, 0)
	for _, c := range []*Code{compiled, loaded, new(Code)} {
		if l, entry := c.List(); len(l) != 0 || entry != 0 {
			t.Errorf("P1: List of no code: %v, %d", l, entry)
		}
		for _, l := range []api.Limits{wide, {}} {
			if o := c.Run(l, 5); !sameOutcome(o, api.Outcome{Err: api.ErrCode}) {
				t.Errorf("P1: Run of no code: %v", o)
			}
		}
	}
}

// Numbers at which something may go wrong.
var edges = []int{least, least + 1, -1 << 32, -1001, -1, 0, 1, 2, 3, 32, 33, 39, 40, 59, 60, 999, 1000, 1001, 4999, 5000, 5001, 1 << 32, 1<<32 + 1, most - 1, most}

func TestP1AnyNumbersAndListsEnd(t *testing.T) {
	c := &chance{7}
	edge := func() int { return edges[c.below(len(edges))] }
	runs := 0
	for range 30000 {
		l := make(instrs, c.below(5))
		for i := range l {
			l[i] = to(edge(), int64(edge()))
			if c.below(4) > 0 {
				l[i] = to(c.below(62)-1, int64(c.below(6)-1))
			}
		}
		if c.below(4) > 0 {
			l = append(l, halt)
		}
		entry, cells := c.below(4), c.below(4)
		if c.below(4) == 0 {
			entry, cells = edge(), edge()
		}
		x, e := Load(l, entry, cells)
		if (x == nil) != (e == api.ErrCode) || x != nil && e != api.OK {
			t.Fatalf("P1: Load(%v, %d, %d): code %v, %d", l, entry, cells, x != nil, e)
		}
		got, at := x.List()
		limits := api.Limits{Stack: edge(), Aside: edge(), Calls: edge(), Output: edge()}
		x.Run(limits, min(edge(), 10000))
		if x == nil {
			continue
		}
		if !slices.Equal(got, l) || at != entry {
			t.Fatalf("P4: Load(%v, %d, %d): %v, %d", l, entry, cells, got, at)
		}
		checkModelled(t, l, entry, cells, wide, 50)
		runs++
	}
	if runs < 4000 {
		t.Errorf("only %d lists were code", runs)
	}
}

// Loaded code need not be like what is compiled: it goes anywhere, calls and returns as it likes.
func TestP1AnyCodeEnds(t *testing.T) {
	c := &chance{8}
	for range 20000 {
		size := 1 + c.below(12)
		l := make(instrs, size)
		for i := range l {
			n := c.below(53)
			if n > api.LastBase {
				n += 7
			}
			l[i] = to(n, int64(c.below(size)))
		}
		l[size-1].Op = []int{api.Jump, api.Ret, api.Halt}[c.below(3)]
		limits := api.Limits{Stack: 1 + c.below(9), Aside: 1 + c.below(5), Calls: 1 + c.below(5), Output: 1 + c.below(9)}
		checkModelled(t, l, c.below(size), c.below(5), limits, c.below(100))
	}
}

func TestP1GreatCodeEnds(t *testing.T) {
	l := slices.Repeat(instrs{to(api.LitAdd, 1)}, 5000)
	l[0], l[4999] = lit(0), to(api.Jump, 1)
	c, e := Load(l, 0, 1000)
	if c == nil || e != api.OK {
		t.Fatalf("P6: code %v, %d", c != nil, e)
	}
	if o := c.Run(wide, 1000000); !sameOutcome(o, api.Outcome{Err: api.ErrFuel, Steps: 1000000}) {
		t.Errorf("P7: %v", told(o))
	}
	// As much fuel as there can be is no reason not to end.
	if o := compiled(t, "100000 0 do loop").Run(wide, most); !sameOutcome(o, api.Outcome{Steps: 100004}) {
		t.Errorf("P7: %v", told(o))
	}
}
