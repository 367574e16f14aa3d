package expr

import (
	"math"

	"malthouse/api"
)

// Eval is the value of e, with the values of its names from env.
func Eval(e api.Expr, env []api.Cell) (int, api.Errno) {
	if !May(e) {
		return 0, api.ErrArg
	}
	return value(e, env)
}

// Fill is e with the values of env in place of its names.
func Fill(e api.Expr, env []api.Cell) (api.Expr, api.Errno) {
	if !May(e) {
		return api.Expr{}, api.ErrArg
	}
	filled := fill(e, env)
	if !May(filled) { // it is well formed: only its length can be wrong
		return api.Expr{}, api.ErrLong
	}
	return filled, api.OK
}

// value is the value of a tree that May accepts.
func value(e api.Expr, env []api.Cell) (int, api.Errno) {
	switch operators[e.Op].kids {
	case 0:
		return leafValue(e, env)
	case 1:
		a, f := value(e.Kids[0], env)
		if f != api.OK {
			return 0, f
		}
		return one(e.Op, a)
	}
	a, f := value(e.Kids[0], env)
	if f != api.OK {
		return 0, f
	}
	b, f := value(e.Kids[1], env)
	if f != api.OK {
		return 0, f
	}
	return two(e.Op, a, b)
}

func leafValue(e api.Expr, env []api.Cell) (int, api.Errno) {
	if e.Op == api.ExNum {
		return e.N, api.OK
	}
	if n, ok := find(env, e.Name); ok {
		return n, api.OK
	}
	return 0, api.ErrName
}

// find is the value of the first cell with a name.
func find(env []api.Cell, name string) (int, bool) {
	for _, c := range env {
		if c.Name == name {
			return c.N, true
		}
	}
	return 0, false
}

// one is what a unary operator makes of a, two what a binary one makes of a and b.
func one(op, a int) (int, api.Errno) {
	if op == api.ExNeg {
		return negative(a)
	}
	return truth(a == 0), api.OK
}

func two(op, a, b int) (int, api.Errno) {
	switch op {
	case api.ExAdd:
		return sum(a, b)
	case api.ExSub:
		return difference(a, b)
	case api.ExMul:
		return product(a, b)
	case api.ExDiv:
		return quotient(a, b)
	case api.ExMod:
		return remainder(a, b)
	}
	return truth(holds(op, a, b)), api.OK
}

// holds is what the operators that yield 1 or 0 say of a and b.
func holds(op, a, b int) bool {
	switch op {
	case api.ExLt:
		return a < b
	case api.ExLe:
		return a <= b
	case api.ExGt:
		return a > b
	case api.ExGe:
		return a >= b
	case api.ExEq:
		return a == b
	case api.ExNe:
		return a != b
	case api.ExAnd:
		return a != 0 && b != 0
	}
	return a != 0 || b != 0
}

func truth(b bool) int {
	if b {
		return 1
	}
	return 0
}

func negative(a int) (int, api.Errno) {
	if a == math.MinInt64 {
		return 0, api.ErrRange
	}
	return -a, api.OK
}

func sum(a, b int) (int, api.Errno) {
	s := a + b
	if (s < a) != (b < 0) { // it has wrapped round
		return 0, api.ErrRange
	}
	return s, api.OK
}

func difference(a, b int) (int, api.Errno) {
	d := a - b
	if (d > a) != (b < 0) {
		return 0, api.ErrRange
	}
	return d, api.OK
}

func product(a, b int) (int, api.Errno) {
	if b == 0 {
		return 0, api.OK
	}
	if b == -1 { // a division by -1 would wrap round as the product does, and hide it
		return negative(a)
	}
	p := a * b
	if p/b != a {
		return 0, api.ErrRange
	}
	return p, api.OK
}

func quotient(a, b int) (int, api.Errno) {
	switch b {
	case 0:
		return 0, api.ErrZero
	case -1:
		return negative(a)
	}
	return a / b, api.OK
}

func remainder(a, b int) (int, api.Errno) {
	if b == 0 {
		return 0, api.ErrZero
	}
	return a % b, api.OK
}

// fill copies a tree that May accepts, so that the copy shares no operands with it.
func fill(e api.Expr, env []api.Cell) api.Expr {
	switch operators[e.Op].kids {
	case 0:
		return fillLeaf(e, env)
	case 1:
		return node(e.Op, fill(e.Kids[0], env))
	}
	return node(e.Op, fill(e.Kids[0], env), fill(e.Kids[1], env))
}

func fillLeaf(e api.Expr, env []api.Cell) api.Expr {
	if e.Op == api.ExNum {
		return number(e.N)
	}
	if n, ok := find(env, e.Name); ok {
		return constant(n)
	}
	return name(e.Name)
}

// constant is a tree with the value n.
func constant(n int) api.Expr {
	switch {
	case n >= 0:
		return number(n)
	case n == math.MinInt64: // its absolute value is beyond the numbers
		return node(api.ExSub, constant(n+1), number(1))
	}
	return node(api.ExNeg, number(-n))
}
