// Package compiler: makes the code of a text.
package compiler

import (
	"fathom/api"
	"fathom/code"
	"fathom/tokens"
)

type compiler struct {
	reader      *tokens.Reader
	at          int // the place of the token read last; every error is one of that token
	definitions *part
	main        *part
	here        *part // the one of the two that elements go to now
	start       int64 // of the word that is being defined
	names       map[string]api.Instr
	cells       int
	open        []thing
}

// Compile makes the code of a text; or tells what is wrong, and where.
func Compile(text string) (code.Program, api.Errno, int) {
	if len(text) > api.MaxText {
		return code.Program{}, api.ErrLong, 0
	}
	c := newCompiler(text)
	for token := c.next(); token != ""; token = c.next() {
		if e := c.take(token); e != api.OK {
			return code.Program{}, e, c.at
		}
	}
	if len(c.open) > 0 {
		return code.Program{}, api.ErrNest, c.at
	}
	c.main.add(plain(api.Halt))
	return c.program(), api.OK, 0
}

func (c *compiler) program() code.Program {
	return code.Program{List: join(c.definitions, c.main), Entry: len(c.definitions.list), Cells: c.cells}
}

func newCompiler(text string) *compiler {
	main := &part{}
	return &compiler{
		reader:      tokens.NewReader(text),
		definitions: &part{},
		main:        main,
		here:        main,
		names:       map[string]api.Instr{},
	}
}

func (c *compiler) next() string {
	token, at := c.reader.Next()
	c.at = at
	return token
}

func (c *compiler) take(token string) api.Errno {
	if m, ok := meaningOf(token); ok {
		return c.follow(m)
	}
	if n, ok := tokens.Number(token); ok {
		c.here.add(with(api.Lit, n))
		return api.OK
	}
	in, ok := c.names[token]
	if !ok {
		return api.ErrWord
	}
	c.here.add(in)
	return api.OK
}

func (c *compiler) follow(m meaning) api.Errno {
	switch m.kind {
	case operator:
		c.here.add(plain(m.op))
	case recurse:
		return c.recur()
	case opensIf:
		c.openIf()
	case opensBegin:
		c.openBegin()
	case opensDo:
		c.openDo()
	case closes:
		return c.closeLast(m.token)
	default:
		return c.define(m.kind)
	}
	return api.OK
}

func (c *compiler) recur() api.Errno {
	if c.here != c.definitions {
		return api.ErrWord
	}
	c.here.add(with(api.Call, c.start))
	return api.OK
}

func (c *compiler) define(k kind) api.Errno {
	if len(c.open) > 0 {
		return api.ErrNest
	}
	name := c.next()
	if !c.mayBeName(name) {
		return api.ErrName
	}
	switch k {
	case colon:
		c.openWord(name)
	case variable:
		c.names[name] = with(api.Lit, int64(c.cells))
		c.cells++
	case constant:
		n, ok := tokens.Number(c.next())
		if !ok {
			return api.ErrName
		}
		c.names[name] = with(api.Lit, n)
	}
	return api.OK
}

func (c *compiler) mayBeName(token string) bool {
	_, means := meaningOf(token)
	_, isNumber := tokens.Number(token)
	_, defined := c.names[token]
	return token != "" && !means && !isNumber && !defined
}
