package prog

import (
	"slices"

	"malthouse/api"
	"malthouse/expr"
	"malthouse/lex"
)

// operations is, for each Op, the fields of a step that it uses.
var operations = [...]struct{ name, to, e, n bool }{
	api.StepSet:    {name: true, e: true},
	api.StepWait:   {e: true},
	api.StepDelay:  {e: true},
	api.StepCharge: {name: true, to: true, e: true},
	api.StepDraw:   {name: true, e: true},
	api.StepMove:   {name: true, to: true, e: true},
	api.StepGoto:   {n: true},
	api.StepNote:   {name: true},
}

func exists(op int) bool { return op >= 0 && op < len(operations) }

// usesE tells whether a step has an expression that is evaluated; one whose Op does not exist has none.
func usesE(op int) bool { return exists(op) && operations[op].e }

// checker is what the steps of a program may refer to.
type checker struct {
	steps                int // how many there are
	outs, vessels, names []string
}

func (c checker) step(s api.Step) api.Errno {
	if !formed(s) {
		return api.ErrArg
	}
	if e := c.fields(s); e != api.OK {
		return e
	}
	if usesE(s.Op) {
		return c.expression(s.E)
	}
	return api.OK
}

// formed tells whether a step has an Op that exists, and nothing that this Op does not use.
func formed(s api.Step) bool {
	if !exists(s.Op) {
		return false
	}
	uses := operations[s.Op]
	return (uses.name || s.Name == "") && (uses.to || s.To == "") && (uses.e || zero(s.E)) && (uses.n || s.N == 0)
}

// zero tells whether e is the zero expression. An empty list of operands is as good as none.
func zero(e api.Expr) bool {
	return e.Op == 0 && e.N == 0 && e.Name == "" && len(e.Kids) == 0
}

// fields is what is wrong with a step beside its expression.
func (c checker) fields(s api.Step) api.Errno {
	switch s.Op {
	case api.StepSet:
		return unless(slices.Contains(c.outs, s.Name), api.ErrNone)
	case api.StepCharge:
		if !c.vessel(s.Name) {
			return api.ErrNone
		}
		return unless(lex.Name(s.To), api.ErrArg)
	case api.StepDraw:
		return unless(c.vessel(s.Name), api.ErrNone)
	case api.StepMove:
		if !c.vessel(s.Name) || !c.vessel(s.To) {
			return api.ErrNone
		}
		return unless(s.Name != s.To, api.ErrArg)
	case api.StepGoto:
		return unless(inside(s.N, c.steps), api.ErrArg)
	case api.StepNote:
		_, ok := lex.Quote(s.Name)
		return unless(ok, api.ErrArg)
	}
	return api.OK
}

func (c checker) vessel(name string) bool { return slices.Contains(c.vessels, name) }

func (c checker) expression(e api.Expr) api.Errno {
	if !expr.May(e) {
		return api.ErrArg
	}
	for _, name := range expr.Names(e) {
		if !slices.Contains(c.names, name) {
			return api.ErrNone
		}
	}
	return api.OK
}

// inside tells whether a program of so many steps can continue at n; behind its last step it is finished.
func inside(n, steps int) bool { return n >= 0 && n <= steps }

// unless is the error e where something that must hold does not.
func unless(holds bool, e api.Errno) api.Errno {
	if holds {
		return api.OK
	}
	return e
}
