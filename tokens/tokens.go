// Package tokens: a text's tokens and where they stand, and which of them are numbers.
package tokens

import (
	"strconv"
	"strings"
)

// Reader goes through a text, token by token.
type Reader struct {
	text string
	at   int
}

// NewReader makes a Reader that stands ahead of the text's first token.
func NewReader(text string) *Reader { return &Reader{text: text} }

// Next answers the next token and its place; at the text's end, "" and the text's length.
func (r *Reader) Next() (string, int) {
	for r.at < len(r.text) && isGap(r.text[r.at]) {
		r.at++
	}
	start := r.at
	for r.at < len(r.text) && !isGap(r.text[r.at]) {
		r.at++
	}
	return r.text[start:r.at], start
}

// Every other byte, tabs too, is part of a token.
func isGap(b byte) bool { return b == 32 || b == 10 }

// Number answers a token's value, and whether the token is a number.
func Number(token string) (int64, bool) {
	// ParseInt takes a plus sign, which makes no number here.
	if strings.HasPrefix(token, "+") {
		return 0, false
	}
	n, err := strconv.ParseInt(token, 10, 64)
	if err != nil {
		return 0, false
	}
	return n, true
}
