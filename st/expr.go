package st

import "rung/api"

// Levels of binary operators, from those that bind least on.
const (
	levelOr = iota
	levelXor
	levelAnd
	levelCompare
	levelSum
	levelTerm
	levels
)

func (r *reader) onlyExpr() api.Expr {
	e := r.expr(top)
	r.end()
	return e
}

func (r *reader) expr(depth int) api.Expr { return r.binary(levelOr, depth) }

// binary reads operands of a level's operators, equals from the left; of
// comparisons there is one at most.
func (r *reader) binary(level, depth int) api.Expr {
	if level == levels {
		return r.unary(depth)
	}
	left := r.binary(level+1, depth)
	for {
		op, of := operator(r.now().Text)
		if op == 0 || of != level {
			return left
		}
		sign := r.take()
		right := r.binary(level+1, depth)
		left = api.Expr{Op: op, L: []api.Expr{left, right}, At: sign.At}
		if level == levelCompare {
			return left
		}
	}
}

// operator tells a binary operator and its level; 0, 0: there is none.
func operator(text string) (int, int) {
	switch text {
	case "OR":
		return api.ExOr, levelOr
	case "XOR":
		return api.ExXor, levelXor
	case "AND":
		return api.ExAnd, levelAnd
	case "=":
		return api.ExEq, levelCompare
	case "<>":
		return api.ExNe, levelCompare
	case "<":
		return api.ExLt, levelCompare
	case ">":
		return api.ExGt, levelCompare
	case "<=":
		return api.ExLe, levelCompare
	case ">=":
		return api.ExGe, levelCompare
	case "+":
		return api.ExAdd, levelSum
	case "-":
		return api.ExSub, levelSum
	case "*":
		return api.ExMul, levelTerm
	case "/":
		return api.ExDiv, levelTerm
	case "MOD":
		return api.ExMod, levelTerm
	}
	return 0, 0
}

func (r *reader) unary(depth int) api.Expr {
	if !r.beginsExpr() {
		r.refuse(api.ErrParse)
	}
	if depth > api.MaxDepth {
		r.refuse(api.ErrDeep)
	}
	switch {
	case r.is("-"):
		return r.unaryOf(api.ExNeg, depth)
	case r.is("NOT"):
		return r.unaryOf(api.ExNot, depth)
	}
	return r.primary(depth)
}

func (r *reader) beginsExpr() bool {
	switch r.now().Tok {
	case api.TokName, api.TokInt, api.TokTime:
		return true
	}
	return r.is("-") || r.is("NOT") || r.is("(")
}

func (r *reader) unaryOf(op, depth int) api.Expr {
	sign := r.take()
	return api.Expr{Op: op, L: []api.Expr{r.unary(depth + 1)}, At: sign.At}
}

func (r *reader) primary(depth int) api.Expr {
	if r.accept("(") {
		e := r.expr(depth + 1)
		r.expect(")")
		return e
	}
	if r.now().Tok != api.TokName {
		return r.literal()
	}
	name := r.take()
	if r.accept("(") {
		return r.call(name, depth)
	}
	return r.variable(name, depth)
}

// call reads a function's call behind its name and bracket.
func (r *reader) call(name api.Token, depth int) api.Expr {
	operands := []api.Expr{r.expr(depth + 1)}
	for r.accept(",") {
		operands = append(operands, r.expr(depth+1))
	}
	r.expect(")")
	return api.Expr{Op: api.ExCall, Name: name.Text, L: operands, At: name.At}
}

// variable reads a variable behind its name.
func (r *reader) variable(name api.Token, depth int) api.Expr {
	v := plainVar(name)
	switch {
	case r.accept("."):
		v.Field = r.name().Text
	case r.accept("["):
		v.L = []api.Expr{r.expr(depth + 1)}
		r.expect("]")
	}
	return v
}

func plainVar(name api.Token) api.Expr {
	return api.Expr{Op: api.ExVar, Name: name.Text, At: name.At}
}

// lit reads a literal that may have a sign, where no expression may stand; a
// time has none.
func (r *reader) lit() api.Expr {
	if !r.is("-") {
		return r.literal()
	}
	sign := r.take()
	number := literalOf(r.takeOf(api.TokInt))
	return api.Expr{Op: api.ExNeg, L: []api.Expr{number}, At: sign.At}
}

func (r *reader) literal() api.Expr {
	if r.now().Tok == api.TokTime {
		return literalOf(r.take())
	}
	return literalOf(r.takeOf(api.TokInt))
}

func literalOf(t api.Token) api.Expr {
	return api.Expr{Op: api.ExLit, Kind: t.Kind, N: t.N, At: t.At}
}
