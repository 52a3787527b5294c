package st

import (
	"slices"

	"rung/api"
)

// stmts reads statements up to the first token that begins none: whether that
// one may end them is asked by what they stand in.
func (r *reader) stmts(depth int) []api.Stmt {
	var list []api.Stmt
	for r.beginsStmt() {
		if depth > api.MaxDepth {
			r.refuse(api.ErrDeep)
		}
		if !r.accept(";") {
			list = append(list, r.stmt(depth))
		}
	}
	return list
}

func (r *reader) beginsStmt() bool {
	switch r.now().Text {
	case ";", "IF", "CASE", "FOR", "WHILE", "REPEAT", "EXIT", "RETURN":
		return true
	}
	return r.now().Tok == api.TokName
}

// stmt reads a statement that isn't empty.
func (r *reader) stmt(depth int) api.Stmt {
	first := r.take()
	s := r.stmtBehind(first, depth+1)
	s.At = first.At
	r.expect(";")
	return s
}

// stmtBehind reads a statement behind its first token; the statements within it
// are inner deep.
func (r *reader) stmtBehind(first api.Token, inner int) api.Stmt {
	switch first.Text {
	case "IF":
		return r.ifStmt(inner)
	case "CASE":
		return r.caseStmt(inner)
	case "FOR":
		return r.forStmt(inner)
	case "WHILE":
		return r.whileStmt(inner)
	case "REPEAT":
		return r.repeatStmt(inner)
	case "EXIT":
		return api.Stmt{Op: api.StExit}
	case "RETURN":
		return api.Stmt{Op: api.StReturn}
	}
	if r.accept("(") {
		return r.blockCall(first)
	}
	return r.assignment(first)
}

func (r *reader) ifStmt(inner int) api.Stmt {
	arms := []api.Arm{r.ifArm(inner)}
	for r.accept("ELSIF") {
		arms = append(arms, r.ifArm(inner))
	}
	if r.accept("ELSE") {
		arms = append(arms, api.Arm{Body: r.stmts(inner)})
	}
	r.expect("END_IF")
	return api.Stmt{Op: api.StIf, Arms: arms}
}

func (r *reader) ifArm(inner int) api.Arm {
	test := r.expr(top)
	r.expect("THEN")
	return api.Arm{E: []api.Expr{test}, Body: r.stmts(inner)}
}

func (r *reader) caseStmt(inner int) api.Stmt {
	chosen := r.expr(top)
	r.expect("OF")
	arms := []api.Arm{r.caseArm(inner)}
	// A time doesn't end an arm's statements, though it may be a label.
	for r.now().Tok == api.TokInt || r.is("-") {
		arms = append(arms, r.caseArm(inner))
	}
	if r.accept("ELSE") {
		arms = append(arms, api.Arm{Body: r.stmts(inner)})
	}
	r.expect("END_CASE")
	return api.Stmt{Op: api.StCase, E: []api.Expr{chosen}, Arms: arms}
}

func (r *reader) caseArm(inner int) api.Arm {
	labels := [][2]api.Expr{r.label()}
	for r.accept(",") {
		labels = append(labels, r.label())
	}
	r.expect(":")
	return api.Arm{Labels: labels, Body: r.stmts(inner)}
}

// label reads a pair of bounds. Those of a single literal are the same, but
// share no list.
func (r *reader) label() [2]api.Expr {
	low := r.lit()
	if r.accept("..") {
		return [2]api.Expr{low, r.lit()}
	}
	high := low
	high.L = slices.Clone(low.L)
	return [2]api.Expr{low, high}
}

func (r *reader) forStmt(inner int) api.Stmt {
	v := plainVar(r.name())
	r.expect(":=")
	span := []api.Expr{r.expr(top)}
	r.expect("TO")
	span = append(span, r.expr(top))
	if r.accept("BY") {
		span = append(span, r.expr(top))
	}
	r.expect("DO")
	body := r.stmts(inner)
	r.expect("END_FOR")
	return api.Stmt{Op: api.StFor, V: v, E: span, Body: body}
}

func (r *reader) whileStmt(inner int) api.Stmt {
	test := r.expr(top)
	r.expect("DO")
	body := r.stmts(inner)
	r.expect("END_WHILE")
	return api.Stmt{Op: api.StWhile, E: []api.Expr{test}, Body: body}
}

func (r *reader) repeatStmt(inner int) api.Stmt {
	body := r.stmts(inner)
	r.expect("UNTIL")
	test := r.expr(top)
	r.expect("END_REPEAT")
	return api.Stmt{Op: api.StRepeat, E: []api.Expr{test}, Body: body}
}

// blockCall reads a block's call behind its name and bracket.
func (r *reader) blockCall(name api.Token) api.Stmt {
	var args []api.Arg
	if !r.is(")") {
		args = append(args, r.arg())
		for r.accept(",") {
			args = append(args, r.arg())
		}
	}
	r.expect(")")
	return api.Stmt{Op: api.StCall, V: plainVar(name), Args: args}
}

func (r *reader) arg() api.Arg {
	name := r.name()
	r.expect(":=")
	return api.Arg{Name: name.Text, E: r.expr(top), At: name.At}
}

// assignment reads one behind the name that it begins with.
func (r *reader) assignment(name api.Token) api.Stmt {
	target := r.variable(name, top)
	r.expect(":=")
	return api.Stmt{Op: api.StAssign, V: target, E: []api.Expr{r.expr(top)}}
}
