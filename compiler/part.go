package compiler

import "fathom/api"

// part is a piece of the code while it grows; numbers in it count from its own start.
type part struct{ list []api.Instr }

// add puts instructions behind the part and answers the number of the first of them.
func (p *part) add(l ...api.Instr) int64 {
	first := p.next()
	p.list = append(p.list, l...)
	return first
}

func (p *part) next() int64 { return int64(len(p.list)) }

// aim lets the jump of that number, made when its goal was not known yet, go to what comes next.
func (p *part) aim(jump int64) { p.list[jump].Arg = p.next() }

func plain(op int) api.Instr { return api.Instr{Op: op} }

func with(op int, arg int64) api.Instr { return api.Instr{Op: op, Arg: arg} }

// join lays the main part behind the definitions.
func join(definitions, main *part) []api.Instr {
	entry := definitions.next()
	l := make([]api.Instr, 0, len(definitions.list)+len(main.list))
	l = append(l, definitions.list...)
	for _, in := range main.list {
		l = append(l, moved(in, entry))
	}
	return l
}

// A Call goes to a definition, and these stay where they are.
func moved(in api.Instr, by int64) api.Instr {
	switch in.Op {
	case api.Jump, api.Jumpz, api.Loop:
		in.Arg += by
	}
	return in
}
