// Package shorten: makes code shorter, so that whoever runs it sees no difference but in steps.
package shorten

import (
	"slices"

	"fathom/api"
	"fathom/code"
)

// With answers a program, as compiled without options, with these options done. Tail comes first: by a Call that only
// Fold lets stand ahead of a Ret, how deep calls go would be seen. Super comes last, as Fold knows no instruction
// that stands for several.
func With(p code.Program, o api.Options) code.Program {
	if o.Tail {
		p = tail(p)
	}
	if o.Fold {
		p = fold(p)
	}
	if o.Super {
		p = super(p)
	}
	return p
}

func tail(p code.Program) code.Program {
	p.List = slices.Clone(p.List)
	for i := range p.List[1:] {
		if p.List[i].Op == api.Call && p.List[i+1].Op == api.Ret {
			p.List[i].Op = api.Jump
		}
	}
	return p
}
