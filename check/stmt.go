package check

import (
	"slices"

	"rung/api"
	"rung/num"
	"rung/types"
)

// statements looks at some, in order; looped: whether a loop is around them.
func (c *checker) statements(l []api.Stmt, looped bool) {
	for _, s := range l {
		c.enter(s.At)
		c.statement(s, looped)
		c.leave()
	}
}

// statement refuses, for ErrOp, trees that no text is read as: other statements,
// or with parts that are missing or too many.
func (c *checker) statement(s api.Stmt, looped bool) {
	switch s.Op {
	case api.StAssign:
		kind := c.target(s.V)
		c.elab(only(s), kind)
	case api.StIf:
		c.ifStatement(s, looped)
	case api.StCase:
		c.caseStatement(s, looped)
	case api.StFor:
		c.forStatement(s)
	case api.StWhile:
		c.elab(only(s), api.KBool)
		c.statements(s.Body, true)
	case api.StRepeat:
		c.statements(s.Body, true)
		c.elab(only(s), api.KBool)
	case api.StExit:
		must(looped, s.At, api.ErrExit)
	case api.StReturn:
	case api.StCall:
		must(isName(s.V), s.At, api.ErrCall)
		c.blockCall(s.V.Name, s.Args, s.At)
	default:
		must(false, s.At, api.ErrOp)
	}
}

// only tells a statement's one expression.
func only(s api.Stmt) api.Expr {
	must(len(s.E) == 1, s.At, api.ErrOp)
	return s.E[0]
}

// isName tells whether e is a variable's name alone.
func isName(e api.Expr) bool { return e.Op == api.ExVar && e.Field == "" && len(e.L) == 0 }

// target tells the kind of what may be assigned to. Nothing of a block's or an
// input's may be; of all others a name that there isn't is ErrName.
func (c *checker) target(e api.Expr) int {
	must(e.Op == api.ExVar, e.At, api.ErrTarget)
	t, ok := types.TypeOf(c.p, e.Name)
	must(ok, e.At, api.ErrName)
	_, input := c.inputs[e.Name]
	must(!input && !types.Block(t.Name), e.At, api.ErrTarget)
	switch {
	case e.Field != "":
	case len(e.L) > 0:
		must(t.Kind == api.KArray, e.At, api.ErrTarget)
	default:
		must(num.Scalar(t.Kind), e.At, api.ErrTarget)
	}
	return c.elab(e, 0).Kind
}

func (c *checker) ifStatement(s api.Stmt, looped bool) {
	must(len(s.Arms) > 0, s.At, api.ErrOp)
	for i, arm := range s.Arms {
		if !isElse(s.Arms, i) {
			must(len(arm.E) == 1 && len(arm.Labels) == 0, s.At, api.ErrOp)
			c.elab(arm.E[0], api.KBool)
		}
		c.statements(arm.Body, looped)
	}
}

func (c *checker) caseStatement(s api.Stmt, looped bool) {
	e := only(s)
	kind := c.elab(e, 0).Kind
	must(isInteger(kind), e.At, api.ErrKind)
	must(len(s.Arms) > 0, s.At, api.ErrOp)
	for i, arm := range s.Arms {
		if !isElse(s.Arms, i) {
			must(len(arm.E) == 0 && len(arm.Labels) > 0, s.At, api.ErrOp)
			checkLabels(arm.Labels, kind)
		}
		c.statements(arm.Body, looped)
	}
}

// isElse tells whether an arm is ELSE's: it is the last one, but not the only
// one.
func isElse(arms []api.Arm, i int) bool {
	return i > 0 && i == len(arms)-1 && len(arms[i].E) == 0 && len(arms[i].Labels) == 0
}

func checkLabels(l [][2]api.Expr, kind int) {
	for _, bounds := range l {
		low, high := label(bounds[0], kind), label(bounds[1], kind)
		must(low <= high, bounds[0].At, api.ErrConst)
	}
}

// label tells the number of a literal of that kind.
func label(e api.Expr, kind int) int64 {
	n, ok := plain(e)
	must(ok || e.Op == api.ExLit && e.Kind == kind, e.At, api.ErrConst)
	return literal(kind, n, e.At).N
}

func (c *checker) forStatement(s api.Stmt) {
	kind := c.target(s.V)
	must(isName(s.V) && isInteger(kind), s.V.At, api.ErrTarget)
	must(len(s.E) == 2 || len(s.E) == 3, s.At, api.ErrOp)
	for _, e := range s.E {
		c.elab(e, kind)
	}
	c.statements(s.Body, true)
}

// blockCall looks at a block's call; at: the place of the statement, or the
// instruction.
func (c *checker) blockCall(name string, args []api.Arg, at int) {
	t, _ := types.TypeOf(c.p, name)
	must(types.Block(t.Name), at, api.ErrCall)
	inputs, _ := types.Pins(t.Name)
	told := map[string]int{}
	for i, a := range args {
		_, twice := told[a.Name]
		must(!twice && slices.Contains(inputs, a.Name), a.At, api.ErrCall)
		told[a.Name] = i
		c.elab(a.E, types.Pin(t.Name, a.Name))
	}
}
