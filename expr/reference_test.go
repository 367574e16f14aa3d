package expr

import (
	"math/big"
	"math/rand"
	"reflect"
	"slices"
	"strings"

	"malthouse/api"
	"malthouse/lex"
)

// A second reading of the chapter, built another way: whether a token continues an expression is told by a walk with a
// stack, the tree by splitting at the operator that binds least, the value by big numbers.

var signs = map[int]string{
	api.ExNeg: "-", api.ExNot: "!", api.ExAdd: "+", api.ExSub: "-", api.ExMul: "*", api.ExDiv: "/", api.ExMod: "%",
	api.ExLt: "<", api.ExLe: "<=", api.ExGt: ">", api.ExGe: ">=", api.ExEq: "==", api.ExNe: "!=", api.ExAnd: "&", api.ExOr: "|",
}

func rank(op int) int {
	switch op {
	case api.ExOr:
		return 1
	case api.ExAnd:
		return 2
	case api.ExLt, api.ExLe, api.ExGt, api.ExGe, api.ExEq, api.ExNe:
		return 3
	case api.ExAdd, api.ExSub:
		return 4
	case api.ExMul, api.ExDiv, api.ExMod:
		return 5
	}
	return 6
}

// binary is the Op of a sign between operands.
func binary(t api.Token) (int, bool) {
	for op := api.ExAdd; op <= api.ExOr; op++ {
		if t.Kind == api.TokSign && signs[op] == t.Text {
			return op, true
		}
	}
	return 0, false
}

func isSign(t api.Token, among ...string) bool {
	return t.Kind == api.TokSign && slices.Contains(among, t.Text)
}

// walk goes through tokens: open has, for each parenthesis that is open and for the whole, whether a comparison may not
// follow, since one stands there already; whole is whether an operand has just ended.
type walk struct {
	open  []bool
	whole bool
}

func (w *walk) continues(t api.Token) bool {
	last := len(w.open) - 1
	if !w.whole {
		switch {
		case t.Kind == api.TokNumber && t.N >= 0, t.Kind == api.TokName && lex.Name(t.Text):
			w.whole = true
		case isSign(t, "-", "!"):
		case isSign(t, "("):
			w.open = append(w.open, false)
		default:
			return false
		}
		return true
	}
	if isSign(t, ")") && last > 0 {
		w.open = w.open[:last]
		return true
	}
	op, ok := binary(t)
	if !ok || rank(op) == 3 && w.open[last] {
		return false
	}
	if rank(op) <= 3 {
		w.open[last] = rank(op) == 3
	}
	w.whole = false
	return true
}

func referenceTake(l []api.Token, at int) (api.Expr, api.Errno, int) {
	if at < 0 || at >= len(l) {
		return api.Expr{}, api.ErrToken, at
	}
	w := walk{open: []bool{false}}
	for i := at; ; i++ {
		t := api.Token{}
		if i < len(l) {
			t = l[i]
		}
		complete := w.whole && len(w.open) == 1
		continues := w.continues(t)
		switch {
		case !continues && complete:
			return split(l[at:i]), api.OK, i
		case !continues:
			return api.Expr{}, api.ErrToken, i
		case i-at == 64:
			return api.Expr{}, api.ErrLong, i
		}
	}
}

// split is the tree of tokens that are an expression.
func split(l []api.Token) api.Expr {
	depth, cut, least := 0, -1, 9
	for i, t := range l {
		switch {
		case isSign(t, "("):
			depth++
		case isSign(t, ")"):
			depth--
		}
		between := i > 0 && (l[i-1].Kind != api.TokSign || l[i-1].Text == ")")
		if op, ok := binary(t); ok && between && depth == 0 && rank(op) <= least {
			cut, least = i, rank(op)
		}
	}
	switch {
	case cut >= 0:
		op, _ := binary(l[cut])
		return api.Expr{Op: op, Kids: []api.Expr{split(l[:cut]), split(l[cut+1:])}}
	case isSign(l[0], "-"):
		return api.Expr{Op: api.ExNeg, Kids: []api.Expr{split(l[1:])}}
	case isSign(l[0], "!"):
		return api.Expr{Op: api.ExNot, Kids: []api.Expr{split(l[1:])}}
	case isSign(l[0], "("):
		return split(l[1 : len(l)-1])
	case l[0].Kind == api.TokNumber:
		return api.Expr{Op: api.ExNum, N: l[0].N}
	}
	return api.Expr{Op: api.ExName, Name: l[0].Text}
}

// wellFormed is for trees of a moderate size alone.
func wellFormed(e api.Expr) bool {
	kids, uses := 2, e.N == 0 && e.Name == ""
	switch e.Op {
	case api.ExNum:
		kids, uses = 0, e.N >= 0 && e.Name == ""
	case api.ExName:
		kids, uses = 0, e.N == 0 && lex.Name(e.Name)
	case api.ExNeg, api.ExNot:
		kids = 1
	}
	for _, kid := range e.Kids {
		uses = uses && wellFormed(kid)
	}
	return e.Op >= api.ExNum && e.Op <= api.ExOr && len(e.Kids) == kids && uses
}

// text is the text of a well formed tree, however long it is.
func text(e api.Expr) string {
	switch e.Op {
	case api.ExNum:
		return lex.Show(e.N)
	case api.ExName:
		return e.Name
	case api.ExNeg, api.ExNot:
		return signs[e.Op] + operandText(e, e.Kids[0], false)
	}
	return operandText(e, e.Kids[0], false) + " " + signs[e.Op] + " " + operandText(e, e.Kids[1], true)
}

func operandText(e, kid api.Expr, right bool) string {
	lower := rank(kid.Op) < rank(e.Op)
	sameRight := right && rank(kid.Op) == rank(e.Op)
	comparisons := rank(kid.Op) == 3 && rank(e.Op) == 3
	if lower || sameRight || comparisons {
		return "(" + text(kid) + ")"
	}
	return text(kid)
}

// everyParenthesis is the text with parentheses round all operands that are no leaves.
func everyParenthesis(e api.Expr) string {
	switch len(e.Kids) {
	case 0:
		return text(e)
	case 1:
		return "(" + signs[e.Op] + everyParenthesis(e.Kids[0]) + ")"
	}
	return "(" + everyParenthesis(e.Kids[0]) + signs[e.Op] + everyParenthesis(e.Kids[1]) + ")"
}

// length is how many tokens a text has.
func length(s string) int {
	l, f, _ := lex.Cut(s)
	if f != api.OK {
		panic(s)
	}
	return len(l) - 1
}

func referenceEval(e api.Expr, env []api.Cell) (int, api.Errno) {
	n, f := bigValue(e, env)
	if f != api.OK {
		return 0, f
	}
	return int(n.Int64()), api.OK
}

func bigValue(e api.Expr, env []api.Cell) (*big.Int, api.Errno) {
	var v []*big.Int
	for _, kid := range e.Kids {
		n, f := bigValue(kid, env)
		if f != api.OK {
			return nil, f
		}
		v = append(v, n)
	}
	n := new(big.Int)
	switch e.Op {
	case api.ExNum:
		n.SetInt64(int64(e.N))
	case api.ExName:
		i := slices.IndexFunc(env, func(c api.Cell) bool { return c.Name == e.Name })
		if i < 0 {
			return nil, api.ErrName
		}
		n.SetInt64(int64(env[i].N))
	case api.ExNeg:
		n.Neg(v[0])
	case api.ExAdd:
		n.Add(v[0], v[1])
	case api.ExSub:
		n.Sub(v[0], v[1])
	case api.ExMul:
		n.Mul(v[0], v[1])
	case api.ExDiv, api.ExMod:
		if v[1].Sign() == 0 {
			return nil, api.ErrZero
		}
		if e.Op == api.ExDiv {
			n.Quo(v[0], v[1])
		} else {
			n.Rem(v[0], v[1])
		}
	default:
		if bigTruth(e.Op, v) {
			n.SetInt64(1)
		}
	}
	if !n.IsInt64() {
		return nil, api.ErrRange
	}
	return n, api.OK
}

func bigTruth(op int, v []*big.Int) bool {
	if op == api.ExNot {
		return v[0].Sign() == 0
	}
	order := v[0].Cmp(v[1])
	return map[int]bool{
		api.ExLt: order < 0, api.ExLe: order <= 0, api.ExGt: order > 0, api.ExGe: order >= 0, api.ExEq: order == 0, api.ExNe: order != 0,
		api.ExAnd: v[0].Sign() != 0 && v[1].Sign() != 0, api.ExOr: v[0].Sign() != 0 || v[1].Sign() != 0,
	}[op]
}

func referenceFill(e api.Expr, env []api.Cell) api.Expr {
	if e.Op == api.ExName {
		for _, c := range env {
			if c.Name == e.Name {
				filled, _, _ := Parse(lex.Show(c.N))
				if c.N == -1<<63 {
					filled, _, _ = Parse("-9223372036854775807 - 1")
				}
				return filled
			}
		}
	}
	kids := slices.Clone(e.Kids)
	for i := range kids {
		kids[i] = referenceFill(kids[i], env)
	}
	return api.Expr{Op: e.Op, N: e.N, Name: e.Name, Kids: kids}
}

// same holds trees against each other; an empty list of operands may be nil or not.
func same(a, b api.Expr) bool {
	return a.Op == b.Op && a.N == b.N && a.Name == b.Name && slices.EqualFunc(a.Kids, b.Kids, same)
}

func zero(e api.Expr) bool { return reflect.DeepEqual(e, api.Expr{}) }

// deepCopy is e in new memory.
func deepCopy(e api.Expr) api.Expr {
	e.Kids = slices.Clone(e.Kids)
	for i := range e.Kids {
		e.Kids[i] = deepCopy(e.Kids[i])
	}
	return e
}

var someNumbers = []int{0, 1, 2, 3, 7, 10, 63, 64, 1 << 31, 1 << 32, 3037000499, 3037000500, 1 << 62, 1<<62 - 1, 1<<62 + 1, 1<<63 - 2, 1<<63 - 1}

var someNames = []string{"x", "y", "z", "é", "X9_", "abcdefghijkl", "ɏɏɏɏɏɏɏɏɏɏɏɏ"}

// someTree is a well formed tree of that many nodes.
func someTree(random *rand.Rand, nodes int) api.Expr {
	switch {
	case nodes <= 1 && random.Intn(2) == 0:
		return api.Expr{Op: api.ExNum, N: someNumbers[random.Intn(len(someNumbers))]}
	case nodes <= 1:
		return api.Expr{Op: api.ExName, Name: someNames[random.Intn(len(someNames))]}
	case nodes == 2 || random.Intn(5) == 0:
		return api.Expr{Op: api.ExNeg + random.Intn(2), Kids: []api.Expr{someTree(random, nodes-1)}}
	}
	left := 1 + random.Intn(nodes-2)
	op := api.ExAdd + random.Intn(api.ExOr-api.ExAdd+1)
	return api.Expr{Op: op, Kids: []api.Expr{someTree(random, left), someTree(random, nodes-1-left)}}
}

// someEnv has negative values and the ends of the range too, some names twice, and lacks some.
func someEnv(random *rand.Rand) []api.Cell {
	var env []api.Cell
	for range random.Intn(10) {
		n := someNumbers[random.Intn(len(someNumbers))]
		switch random.Intn(4) {
		case 0:
			n = -n
		case 1:
			n = -n - 1
		}
		env = append(env, api.Cell{Name: someNames[random.Intn(len(someNames))], N: n})
	}
	return env
}

// parse is the tree of a text that is one.
func parse(s string) api.Expr {
	e, f, _ := Parse(s)
	if f != api.OK {
		panic(s)
	}
	return e
}

func repeat(s string, n int) string { return strings.Repeat(s, n) }
