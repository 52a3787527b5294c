package lowst

import (
	"rung/api"
	"rung/emit"
)

func (l *lowering) statements(list []api.Stmt) {
	for _, s := range list {
		l.Step()
		l.statement(s)
	}
}

func (l *lowering) statement(s api.Stmt) {
	switch s.Op {
	case api.StAssign:
		l.assign(s)
	case api.StIf:
		l.ifStatement(s)
	case api.StCase:
		l.caseStatement(s)
	case api.StFor:
		l.forLoop(s)
	case api.StWhile:
		l.whileLoop(s)
	case api.StRepeat:
		l.repeatLoop(s)
	case api.StExit:
		l.exits = append(l.exits, l.Jump(api.OpJump))
	case api.StReturn:
		l.End()
	case api.StCall:
		l.BlockCall(s.V.Name, s.Args)
	}
}

// assign reckons the target's index, and asks for it, ahead of what is assigned.
func (l *lowering) assign(s api.Stmt) {
	cell, ok := l.Fixed(s.V)
	if ok {
		l.Number(s.E[0])
		l.Store(cell)
		return
	}
	l.Number(s.V.L[0])
	l.Element(api.OpCheckAt, s.V)
	l.Number(s.E[0])
	l.Element(api.OpStoreAt, s.V)
}

func (l *lowering) ifStatement(s api.Stmt) {
	var ends []emit.Landing
	for i, arm := range s.Arms {
		past := nowhere
		if len(arm.E) > 0 { // not ELSE
			past = l.jumpIf(arm.E[0], false)
		}
		l.statements(arm.Body)
		if i < len(s.Arms)-1 {
			ends = append(ends, l.Jump(api.OpJump))
		}
		past(l.Here())
	}
	all(ends)(l.Here())
}

// jumpIf adds a jump that is done if a condition is so. One that is a literal
// needn't be asked: the jump is always done, or it is left out.
func (l *lowering) jumpIf(e api.Expr, so bool) emit.Landing {
	for e.Op == api.ExNot {
		e, so = e.L[0], !so
	}
	switch {
	case e.Op == api.ExLit && (e.N != 0) == so:
		return l.Jump(api.OpJump)
	case e.Op == api.ExLit:
		return nowhere
	}
	l.Number(e)
	if so {
		return l.Jump(api.OpOther)
	}
	return l.Jump(api.OpZero)
}

// body adds a loop's statements; it tells the landing of the EXITs among them.
func (l *lowering) body(list []api.Stmt) emit.Landing {
	outer := l.exits
	l.exits = nil
	l.statements(list)
	own := l.exits
	l.exits = outer
	return all(own)
}

// A loop's test stands behind its statements: a jump less is done each time.

func (l *lowering) whileLoop(s api.Stmt) {
	test := l.Jump(api.OpJump)
	begin := l.Here()
	exits := l.body(s.Body)
	test(l.Here())
	l.Step()
	l.jumpIf(s.E[0], true)(begin)
	exits(l.Here())
}

func (l *lowering) repeatLoop(s api.Stmt) {
	begin := l.Here()
	exits := l.body(s.Body)
	l.Step()
	l.jumpIf(s.E[0], false)(begin)
	exits(l.Here())
}
