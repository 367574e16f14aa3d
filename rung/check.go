package rung

import (
	"slices"

	"malthouse/api"
	"malthouse/expr"
	"malthouse/lex"
)

// maxStack is how many elements the stack of a rung may have.
const maxStack = 8

// What an instruction has beside its Op.
const (
	nothing    = iota
	bitName    // in Name
	comparison // in E
)

// operations is, for each Op, what it has beside it, how many elements it takes from the stack, and how many it puts there.
var operations = [...]struct{ uses, takes, puts int }{
	api.InLd:   {bitName, 0, 1},
	api.InLdn:  {bitName, 0, 1},
	api.InCmp:  {comparison, 0, 1},
	api.InAnd:  {bitName, 1, 1},
	api.InAndn: {bitName, 1, 1},
	api.InOr:   {bitName, 1, 1},
	api.InOrn:  {bitName, 1, 1},
	api.InAnb:  {nothing, 2, 1},
	api.InOrb:  {nothing, 2, 1},
	api.InNot:  {nothing, 1, 1},
}

// known tells whether something has a name.
type known func(name string) bool

func among(names []string) known {
	return func(name string) bool { return slices.Contains(names, name) }
}

func always(string) bool { return true }

// checker is the names that rungs may use.
type checker struct {
	bits       []string
	tag, phase known
}

func check(l []api.Rung, tag, phase known) api.Errno {
	if len(l) > api.MaxRungs {
		return api.ErrLong
	}
	c := checker{bits: Bits(l), tag: tag, phase: phase}
	for _, r := range l {
		if e := c.rung(r); e != api.OK {
			return e
		}
	}
	return api.OK
}

func (c checker) rung(r api.Rung) api.Errno {
	switch {
	case r.Kind < api.RungBit || r.Kind > api.RungPerm || !lex.Name(r.Name):
		return api.ErrArg
	case r.Kind >= api.RungHold && !c.phase(r.Name):
		return api.ErrName
	case len(r.Code) > api.MaxIns:
		return api.ErrLong
	}
	return c.code(r.Code)
}

// code follows how many elements the stack has.
func (c checker) code(code []api.Ins) api.Errno {
	depth := 0
	for _, in := range code {
		if e := c.instruction(in); e != api.OK {
			return e
		}
		o := operations[in.Op]
		if depth < o.takes {
			return api.ErrArg
		}
		depth += o.puts - o.takes
		if depth > maxStack {
			return api.ErrArg
		}
	}
	if depth != 1 {
		return api.ErrArg
	}
	return api.OK
}

// instruction is what is wrong with an instruction, whatever is on the stack.
func (c checker) instruction(in api.Ins) api.Errno {
	if !formed(in) {
		return api.ErrArg
	}
	switch operations[in.Op].uses {
	case bitName:
		if !slices.Contains(c.bits, in.Name) {
			return api.ErrName
		}
	case comparison:
		return c.comparison(in.E)
	}
	return api.OK
}

func (c checker) comparison(e api.Expr) api.Errno {
	for _, name := range expr.Names(e) {
		if !c.tag(name) {
			return api.ErrName
		}
	}
	if !expr.May(e) {
		return api.ErrArg
	}
	return api.OK
}

// formed tells whether an instruction has an Op that exists, and nothing that this Op does not use.
func formed(in api.Ins) bool {
	if in.Op < 0 || in.Op >= len(operations) {
		return false
	}
	uses := operations[in.Op].uses
	return (uses == bitName || in.Name == "") && (uses == comparison || zero(in.E))
}

// zero tells whether e is the zero value. An empty list of operands is as good as none.
func zero(e api.Expr) bool {
	return e.Op == 0 && e.N == 0 && e.Name == "" && len(e.Kids) == 0
}
