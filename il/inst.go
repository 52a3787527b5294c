package il

import (
	"errors"
	"slices"

	"rung/api"
	"rung/st"
)

// code reads the instructions and what stands behind them, up to the text's
// end.
func (r *reader) code() []api.Inst {
	r.expect(lineFeed)
	var list []api.Inst
	for r.err == nil && !r.accept("END_PROGRAM") {
		if in := r.line(); in.Label != "" || in.Op != "" {
			list = append(list, in)
		}
	}
	r.passLines()
	r.takeOf(api.TokEnd)
	return list
}

// line reads a line; an empty one as an instruction without label and operator.
func (r *reader) line() api.Inst {
	in := api.Inst{At: r.now().At}
	if r.beginsLabel() {
		in.Label = r.take().Text
		r.expect(":")
	}
	switch {
	case r.beginsOp():
		r.operation(&in)
	case in.Label == "" && r.accept(")"):
		in.Op = ")"
	}
	r.expect(lineFeed)
	return in
}

func (r *reader) beginsLabel() bool {
	return r.now().Tok == api.TokName && r.tokens[1].Text == ":"
}

func (r *reader) beginsOp() bool {
	return r.now().Tok == api.TokName || r.is("AND", "OR", "XOR", "NOT", "MOD")
}

// operation reads an operator, and its operand, if there is one.
func (r *reader) operation(in *api.Inst) {
	in.Op = r.take().Text
	calls := told(in.Op, "CAL", "CALC", "CALCN")
	if !calls && r.accept("(") {
		in.Op += "("
	}
	switch {
	case r.is(lineFeed):
	case calls:
		in.E = []api.Expr{r.name()}
		in.Args = r.args()
	case told(in.Op, "JMP", "JMPC", "JMPCN"):
		in.E = []api.Expr{r.name()}
	default:
		in.E = []api.Expr{r.value()}
	}
}

// told tells whether an operator is one of those.
func told(op string, ops ...string) bool { return slices.Contains(ops, op) }

// name reads a label's, or a block's.
func (r *reader) name() api.Expr {
	t := r.takeOf(api.TokName)
	return api.Expr{Op: api.ExVar, Name: t.Text, At: t.At}
}

func (r *reader) args() []api.Arg {
	r.expect("(")
	if r.accept(")") {
		return nil
	}
	list := []api.Arg{r.arg()}
	for r.accept(",") {
		list = append(list, r.arg())
	}
	r.expect(")")
	return list
}

func (r *reader) arg() api.Arg {
	t := r.takeOf(api.TokName)
	r.expect(":=")
	return api.Arg{Name: t.Text, E: r.value(), At: t.At}
}

// value reads a literal or a variable. How far it goes is found here: st would
// take more for one expression.
func (r *reader) value() api.Expr {
	from := r.now().At
	switch {
	case r.accept("-"):
		r.takeOf(api.TokInt)
	case r.now().Tok == api.TokName:
		r.passVar()
	default:
		r.takeOf(api.TokInt, api.TokTime)
	}
	return r.exprFrom(from)
}

// passVar goes past a variable, whatever its index is.
func (r *reader) passVar() {
	r.take()
	switch {
	case r.accept("."):
		r.takeOf(api.TokName)
	case r.is("["):
		r.passIndex()
	}
}

// passIndex goes past the ] that belongs to the next token, a [; if it isn't on
// the line, up to the line's end, which st will miss the ] at.
func (r *reader) passIndex() {
	open := 0
	for r.now().Tok != api.TokEnd && !r.is(lineFeed) {
		switch r.take().Text {
		case "[":
			open++
		case "]":
			open--
		}
		if open == 0 {
			return
		}
	}
}

// exprFrom tells the expression that stands from that place on, up to the next
// token.
func (r *reader) exprFrom(from int) api.Expr {
	e, err := st.Expr(r.text[from:r.now().At])
	var wrong *api.PlaceError
	if errors.As(err, &wrong) {
		r.refuse(from+wrong.At, wrong.Err)
	}
	move(&e, from)
	return e
}

// move makes an expression's places those of the text that it is a piece of.
func move(e *api.Expr, by int) {
	e.At += by
	for i := range e.L {
		move(&e.L[i], by)
	}
}
