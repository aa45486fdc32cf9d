package fathom

import (
	"strings"
	"testing"

	"fathom/api"
)

const everyToken = ": ; variable constant recurse + - * / mod and or xor invert negate = < dup drop swap over rot " +
	">r r> r@ ! @ emit . i if then else begin until while repeat do loop"

// soup answers a text of tokens in any order, now and then with a byte of any kind.
func soup(c *chance, tokens []string) string {
	var b strings.Builder
	for range c.below(30) {
		b.WriteString(tokens[c.below(len(tokens))])
		switch c.below(12) {
		case 0:
			b.WriteByte(10)
		case 1:
			b.WriteByte(byte(c.below(256)))
		default:
			b.WriteByte(32)
		}
	}
	return b.String()
}

// checkAnswer holds whatever Compile and List answer against what each answer must be like.
func checkAnswer(t *testing.T, text string, o api.Options) {
	t.Helper()
	c, e, at := Compile(text, o)
	l, entry := c.List()
	if e != api.OK {
		if c != nil || l != nil || entry != 0 {
			t.Fatalf("P1: %q: error %d with code %v, list %v, entry %d", text, e, c != nil, l, entry)
		}
		if e < api.ErrLong || e > api.ErrNest || at < 0 || at > len(text) {
			t.Fatalf("P1: %q: error %d at %d", text, e, at)
		}
		return
	}
	if c == nil || at != 0 {
		t.Fatalf("P1: %q: no error, code %v, place %d", text, c != nil, at)
	}
	if len(l) == 0 || entry < 0 || entry >= len(l) {
		t.Fatalf("P1: %q: entry %d of %d instructions", text, entry, len(l))
	}
}

func TestP1AnyTextEnds(t *testing.T) {
	tokens := strings.Fields(everyToken + " a b c 5 -7 99999999999999999999 ; then until loop : a : b 1 if begin do")
	c := &chance{1}
	for range 20000 {
		text := soup(c, tokens)
		checkAnswer(t, text, allOptions()[c.below(8)])
	}
}

func TestP1AnyBytesEnd(t *testing.T) {
	c := &chance{2}
	for range 5000 {
		b := make([]byte, c.below(60))
		for i := range b {
			b[i] = byte(c.below(256))
		}
		checkAnswer(t, string(b), api.Options{})
	}
}

func TestP1GreatTextsEnd(t *testing.T) {
	for _, s := range []string{"if ", "begin ", "do ", "if else ", "begin while ", "1 ", "\x00", ": ", "a ", "variable ", "do loop ", ";"} {
		for _, n := range []int{1998, 1999, 2000, 2001, 100000} {
			checkAnswer(t, strings.Repeat(s, n/len(s)+1)[:n], api.Options{})
		}
	}
}

func TestP1DeepNestingCompiles(t *testing.T) {
	n := 2000 / len("if then ")
	l, _ := compiled(t, strings.Repeat("if ", n)+strings.Repeat("then ", n)).List()
	for k := range n {
		if l[k] != to(api.Jumpz, int64(n)) {
			t.Fatalf("P1: instruction %d of %d ifs: %v", k, n, l[k])
		}
	}
}

func TestP1TheErrorNamedFirst(t *testing.T) {
	long := strings.Repeat(" ", 1990)
	for _, c := range []struct {
		text string
		e    api.Errno
		at   int
	}{
		{"x : 5 then" + long + " ", api.ErrLong, 0},
		{"then : 5 x" + long + " ", api.ErrLong, 0},
		{"x : 5 then", api.ErrWord, 0},
		{": 5 x then", api.ErrName, 2},
		{"then x : 5", api.ErrNest, 0},
		{"if : 5", api.ErrNest, 3},
		{": a variable 7", api.ErrNest, 4},
		{"if constant", api.ErrNest, 3},
		{"if recurse", api.ErrWord, 3},
		{": a x", api.ErrWord, 4},
		{"begin :", api.ErrNest, 6},
	} {
		refused(t, c.text, c.e, c.at)
	}
}

func TestP1ListWithoutCode(t *testing.T) {
	c, _, _ := Compile("x", api.Options{})
	if l, entry := c.List(); l != nil || entry != 0 {
		t.Errorf("P1: List of what Compile gave with an error: %v, %d", l, entry)
	}
	if l, entry := new(Code).List(); len(l) != 0 || entry != 0 {
		t.Errorf("P1: List of empty code: %v, %d", l, entry)
	}
}
