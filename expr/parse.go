package expr

import (
	"malthouse/api"
	"malthouse/lex"
)

// Parse is the expression that s is, or what is wrong with it, and where.
func Parse(s string) (api.Expr, api.Errno, int) {
	l, f, at := lex.Cut(s)
	if f != api.OK {
		return api.Expr{}, f, at
	}
	e, f, next := Take(l, 0)
	if f == api.OK && l[next].Kind != api.TokEnd {
		f = api.ErrToken
	}
	if f != api.OK {
		return api.Expr{}, f, l[next].At
	}
	return e, api.OK, 0
}

// Take is the longest expression that begins at a token, and the index of the token after it.
func Take(l []api.Token, at int) (api.Expr, api.Errno, int) {
	if at < 0 || at >= len(l) {
		return api.Expr{}, api.ErrToken, at
	}
	r := reader{list: l, at: at}
	e, f := r.or()
	if f != api.OK {
		return api.Expr{}, f, r.at
	}
	return e, api.OK, r.at
}

// reader is a list of tokens, the index of the next one, and how many were taken. After an error at is where it is.
type reader struct {
	list  []api.Token
	at    int
	taken int
}

// part reads an expression of one level of the grammar.
type part func() (api.Expr, api.Errno)

func (r *reader) or() (api.Expr, api.Errno)   { return r.chain(orLevel, r.and) }
func (r *reader) and() (api.Expr, api.Errno)  { return r.chain(andLevel, r.cmp) }
func (r *reader) cmp() (api.Expr, api.Errno)  { return r.pair(cmpLevel, r.sum) }
func (r *reader) sum() (api.Expr, api.Errno)  { return r.chain(sumLevel, r.term) }
func (r *reader) term() (api.Expr, api.Errno) { return r.chain(termLevel, r.unary) }

// chain reads operands with operators of a level between them, joined from the left.
func (r *reader) chain(level int, operand part) (api.Expr, api.Errno) {
	e, f := operand()
	for f == api.OK && r.operator(level, 2) >= 0 {
		e, f = r.join(e, level, operand)
	}
	return e, f
}

// pair reads an operand, and one more if an operator of the level follows.
func (r *reader) pair(level int, operand part) (api.Expr, api.Errno) {
	e, f := operand()
	if f == api.OK && r.operator(level, 2) >= 0 {
		e, f = r.join(e, level, operand)
	}
	return e, f
}

// join reads the operator that follows, and its right operand.
func (r *reader) join(left api.Expr, level int, operand part) (api.Expr, api.Errno) {
	op := r.operator(level, 2)
	if f := r.take(); f != api.OK {
		return api.Expr{}, f
	}
	right, f := operand()
	return node(op, left, right), f
}

func (r *reader) unary() (api.Expr, api.Errno) {
	if op := r.operator(unaryLevel, 1); op >= 0 {
		if f := r.take(); f != api.OK {
			return api.Expr{}, f
		}
		e, f := r.unary()
		return node(op, e), f
	}
	if r.sign("(") {
		return r.parenthesized()
	}
	return r.leaf()
}

func (r *reader) parenthesized() (api.Expr, api.Errno) {
	if f := r.take(); f != api.OK {
		return api.Expr{}, f
	}
	e, f := r.or()
	if f != api.OK {
		return api.Expr{}, f
	}
	if !r.sign(")") {
		return api.Expr{}, api.ErrToken
	}
	return e, r.take()
}

// leaf holds a token against what a tree may have, since a list need not come from lex.Cut.
func (r *reader) leaf() (api.Expr, api.Errno) {
	t := r.next()
	var e api.Expr
	switch t.Kind {
	case api.TokNumber:
		e = number(t.N)
	case api.TokName:
		e = name(t.Text)
	default:
		return api.Expr{}, api.ErrToken
	}
	if !formed(e) {
		return api.Expr{}, api.ErrToken
	}
	return e, r.take()
}

// node is an operator with its operands.
func node(op int, kids ...api.Expr) api.Expr { return api.Expr{Op: op, Kids: kids} }

func number(n int) api.Expr {
	e := node(api.ExNum)
	e.N = n
	return e
}

func name(s string) api.Expr {
	e := node(api.ExName)
	e.Name = s
	return e
}

// next is the token that is to be taken.
func (r *reader) next() api.Token {
	if r.at < len(r.list) {
		return r.list[r.at]
	}
	return api.Token{Kind: api.TokEnd}
}

func (r *reader) sign(s string) bool {
	t := r.next()
	return t.Kind == api.TokSign && t.Text == s
}

// operator is the Op of the next token among those of a level with so many operands; negative if there is none.
func (r *reader) operator(level, kids int) int {
	for op, o := range operators {
		if o.level == level && o.kids == kids && r.sign(o.sign) {
			return op
		}
	}
	return -1
}

// take takes the next token, which was found to continue the expression.
func (r *reader) take() api.Errno {
	if r.taken == api.MaxParts {
		return api.ErrLong
	}
	r.taken++
	r.at++
	return api.OK
}
