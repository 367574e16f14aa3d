package prog

import (
	"malthouse/api"
	"malthouse/expr"
)

// result is what the execution of a step comes to. Each one leads to a position; only a request has an effect as well.
type result interface {
	next() api.Mach
}

// move leads to the beginning of a step.
type move struct{ to int }

// stay leads to a step that has not ended yet.
type stay struct{ at api.Mach }

// request leads on as a move does.
type request struct {
	move
	effect api.Effect
}

func (r move) next() api.Mach { return api.Mach{PC: r.to} }
func (r stay) next() api.Mach { return r.at }

// effects is what a result requests.
func effects(r result) []api.Effect {
	if q, ok := r.(request); ok {
		return []api.Effect{q.effect}
	}
	return nil
}

// execute is the result of the step at a position that Right accepts and that is not the end.
func execute(l []api.Step, m api.Mach, env []api.Cell) (result, api.Errno) {
	s := l[m.PC]
	if s.Op == api.StepGoto {
		return jump(s.N, len(l))
	}
	n := 0
	if usesE(s.Op) && m.Left == 0 { // a delay that has begun keeps its length, whatever has become of E
		var e api.Errno
		n, e = expr.Eval(s.E, env)
		if e != api.OK {
			return nil, e
		}
	}
	return outcome(s, m, n), api.OK
}

// jump can fail, since only Check has asked for a target inside the program.
func jump(to, steps int) (result, api.Errno) {
	if !inside(to, steps) {
		return nil, api.ErrArg
	}
	return move{to}, api.OK
}

// outcome is the result of a step other than a jump, where n is the value of its expression.
func outcome(s api.Step, m api.Mach, n int) result {
	on := move{m.PC + 1}
	switch s.Op {
	case api.StepSet, api.StepCharge, api.StepDraw, api.StepMove:
		return request{on, api.Effect{Op: s.Op, Name: s.Name, To: s.To, N: n}}
	case api.StepNote:
		return request{on, api.Effect{Op: s.Op, Name: s.Name}}
	case api.StepWait:
		if n == 0 {
			return stay{m}
		}
	case api.StepDelay:
		if left := remaining(m.Left, n); left > 0 {
			return stay{api.Mach{PC: m.PC, Left: left}}
		}
	}
	return on
}

// remaining is how many scans a delay of n still waits after a scan before which it waited for left, where 0 means that it had not begun.
func remaining(left, n int) int {
	if left == 0 {
		return n
	}
	return left - 1
}
