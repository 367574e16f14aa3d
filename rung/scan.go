package rung

import (
	"slices"

	"malthouse/api"
	"malthouse/expr"
)

// scan is what rungs read and change while they are executed. They are rungs that check accepts, so that no bit and no element of the stack is missing.
type scan struct {
	names []string // of the bits
	bits  []bool
	env   []api.Cell
	holds []string // with duplicates, as bars
	bars  []string
}

func begin(names []string, bits []bool, env []api.Cell) *scan {
	return &scan{names: names, bits: slices.Clone(bits), env: env}
}

// bit is the index of a bit.
func (s *scan) bit(name string) int { return slices.Index(s.names, name) }

// apply is what comes of the outcome of a rung.
func (s *scan) apply(r api.Rung, outcome bool) {
	switch r.Kind {
	case api.RungBit:
		s.bits[s.bit(r.Name)] = outcome
	case api.RungSet:
		if outcome {
			s.bits[s.bit(r.Name)] = true
		}
	case api.RungReset:
		if outcome {
			s.bits[s.bit(r.Name)] = false
		}
	case api.RungHold:
		if !outcome {
			s.holds = append(s.holds, r.Name)
		}
	case api.RungPerm:
		if !outcome {
			s.bars = append(s.bars, r.Name)
		}
	}
}

// outcome is the only element that is left on the stack.
func (s *scan) outcome(code []api.Ins) bool {
	var stack []bool
	for _, in := range code {
		stack = effect(stack, in.Op, s.operand(in))
	}
	return stack[0]
}

// operand is what an instruction reads: a bit, or whether the value of its expression is not 0; false if it reads the stack alone.
func (s *scan) operand(in api.Ins) bool {
	switch operations[in.Op].uses {
	case bitName:
		return s.bits[s.bit(in.Name)]
	case comparison:
		n, _ := expr.Eval(in.E, s.env) // with an error n is 0
		return n != 0
	}
	return false
}

// effect is the stack after an instruction with the operand x.
func effect(stack []bool, op int, x bool) []bool {
	top := len(stack) - 1
	switch op {
	case api.InLdn:
		x = !x
		fallthrough
	case api.InLd, api.InCmp:
		return append(stack, x)
	case api.InAndn:
		x = !x
		fallthrough
	case api.InAnd:
		stack[top] = stack[top] && x
	case api.InOrn:
		x = !x
		fallthrough
	case api.InOr:
		stack[top] = stack[top] || x
	case api.InAnb:
		return append(stack[:top-1], stack[top-1] && stack[top])
	case api.InOrb:
		return append(stack[:top-1], stack[top-1] || stack[top])
	case api.InNot:
		stack[top] = !stack[top]
	}
	return stack
}
