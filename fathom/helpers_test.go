package fathom

import (
	"fmt"
	"strings"
	"testing"

	"fathom/api"
)

type instrs = []api.Instr

func op(n int) api.Instr { return api.Instr{Op: n} }

func to(n int, k int64) api.Instr { return api.Instr{Op: n, Arg: k} }

func lit(n int64) api.Instr { return to(api.Lit, n) }

var halt, ret = op(api.Halt), op(api.Ret)

var wide = api.Limits{Stack: 1000, Aside: 1000, Calls: 1000, Output: 1000}

// brief tells a list, of a long one its end only.
func brief(l instrs) string {
	if n := len(l); n > 40 {
		return fmt.Sprintf("%d instructions up to %v", n, l[n-10:])
	}
	return fmt.Sprint(l)
}

// told tells an outcome, of a long one its beginning only.
func told(o api.Outcome) string {
	s := fmt.Sprintf("%+v", o)
	return s[:min(len(s), 300)]
}

// allOptions has each way to set the options.
func allOptions() []api.Options {
	var l []api.Options
	for n := range 8 {
		l = append(l, api.Options{Fold: n&1 > 0, Tail: n&2 > 0, Super: n&4 > 0})
	}
	return l
}

func compiled(t *testing.T, text string) *Code {
	t.Helper()
	return compiledWith(t, text, api.Options{})
}

func compiledWith(t *testing.T, text string, o api.Options) *Code {
	t.Helper()
	c, e, at := Compile(text, o)
	if c == nil || e != api.OK || at != 0 {
		t.Fatalf("Compile(%.60q, %v): code %v, error %d at %d", text, o, c != nil, e, at)
	}
	return c
}

// refused asks that Compile answers the error at that place, with whatever options, and no code.
func refused(t *testing.T, text string, want api.Errno, place int) {
	t.Helper()
	for _, o := range allOptions() {
		c, e, at := Compile(text, o)
		if c != nil || e != want || at != place {
			t.Errorf("Compile(%.60q, %v): code %v, error %d at %d, want %d at %d", text, o, c != nil, e, at, want, place)
		}
	}
}

// marked answers a text without its first ^, and where that stood.
func marked(s string) (string, int) {
	at := strings.Index(s, "^")
	return s[:at] + s[at+1:], at
}

// chance is a row of numbers that is the same in every run of the tests.
type chance struct{ state uint64 }

func (c *chance) below(n int) int {
	c.state = c.state*6364136223846793005 + 1442695040888963407
	return int(c.state>>33) % n
}
