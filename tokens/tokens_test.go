package tokens

import (
	"math"
	"strings"
	"testing"
)

type placed struct {
	token string
	at    int
}

func TestNextGivesTheLongestRowsAndTheirPlaces(t *testing.T) {
	for _, c := range []struct {
		text string
		want []placed
	}{
		{"", nil},
		{" \n\n ", nil},
		{"a", []placed{{"a", 0}}},
		{" ab\n c  ", []placed{{"ab", 1}, {"c", 5}}},
		{"1\t2 \r\n\v", []placed{{"1\t2", 0}, {"\r", 4}, {"\v", 6}}},
		{"\x00 \xff\xfe \u00a0x", []placed{{"\x00", 0}, {"\xff\xfe", 2}, {"\u00a0x", 5}}},
	} {
		r := NewReader(c.text)
		for _, w := range c.want {
			if token, at := r.Next(); token != w.token || at != w.at {
				t.Errorf("%q: %q at %d, want %q at %d", c.text, token, at, w.token, w.at)
			}
		}
		for range 2 {
			if token, at := r.Next(); token != "" || at != len(c.text) {
				t.Errorf("%q: %q at %d, want the end", c.text, token, at)
			}
		}
	}
}

func TestNumber(t *testing.T) {
	for token, want := range map[string]int64{
		"0": 0, "-0": 0, "007": 7, "-012": -12, "5": 5, "-5": -5,
		"9223372036854775807":                  math.MaxInt64,
		"-9223372036854775808":                 math.MinInt64,
		strings.Repeat("0", 1000) + "12":       12,
		"-" + strings.Repeat("0", 1000) + "12": -12,
	} {
		if n, ok := Number(token); !ok || n != want {
			t.Errorf("%.30q: %d, %v, want %d", token, n, ok, want)
		}
	}
}

func TestNoNumber(t *testing.T) {
	for _, token := range []string{
		"", "-", "+", "+5", "--5", "-+5", "+-5", "5-", "5-5", "1_000", "0x10", "0b1", "1e3", "1.0", "5\t", "\t5", "x", "1x",
		"9223372036854775808", "-9223372036854775809", "99999999999999999999", "\u0665", "5\x00",
	} {
		if n, ok := Number(token); ok || n != 0 {
			t.Errorf("%q: %d, %v, want no number", token, n, ok)
		}
	}
}
