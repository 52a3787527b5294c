package lowst

import (
	"rung/api"
	"rung/types"
)

func (l *lowering) statements(list []api.Stmt) {
	for _, s := range list {
		l.step()
		l.statement(s)
	}
}

func (l *lowering) statement(s api.Stmt) {
	switch s.Op {
	case api.StAssign:
		l.assign(s)
	case api.StIf:
		l.ifStatement(s)
	case api.StCase:
		l.caseStatement(s)
	case api.StFor:
		l.forLoop(s)
	case api.StWhile:
		l.whileLoop(s)
	case api.StRepeat:
		l.repeatLoop(s)
	case api.StExit:
		l.exits = append(l.exits, l.jump(api.OpJump))
	case api.StReturn:
		l.add(api.Ins{Op: api.OpEnd})
	case api.StCall:
		l.blockCall(s)
	}
}

// assign reckons the target's index, and asks for it, ahead of what is assigned.
func (l *lowering) assign(s api.Stmt) {
	of := l.cells.Of(s.V.Name, s.V.Field)
	cell, ok := fixed(of, s.V)
	if ok {
		l.number(s.E[0])
		l.store(cell)
		return
	}
	l.number(s.V.L[0])
	l.element(api.OpCheckAt, of)
	l.number(s.E[0])
	l.element(api.OpStoreAt, of)
}

func (l *lowering) ifStatement(s api.Stmt) {
	var ends []landing
	for i, arm := range s.Arms {
		past := nowhere
		if len(arm.E) > 0 { // not ELSE
			past = l.jumpIf(arm.E[0], false)
		}
		l.statements(arm.Body)
		if i < len(s.Arms)-1 {
			ends = append(ends, l.jump(api.OpJump))
		}
		past(l.here())
	}
	all(ends)(l.here())
}

// jumpIf adds a jump that is done if a condition is so. One that is a literal
// needn't be asked: the jump is always done, or it is left out.
func (l *lowering) jumpIf(e api.Expr, so bool) landing {
	for e.Op == api.ExNot {
		e, so = e.L[0], !so
	}
	switch {
	case e.Op == api.ExLit && (e.N != 0) == so:
		return l.jump(api.OpJump)
	case e.Op == api.ExLit:
		return nowhere
	}
	l.number(e)
	if so {
		return l.jump(api.OpOther)
	}
	return l.jump(api.OpZero)
}

// body adds a loop's statements; it tells the landing of the EXITs among them.
func (l *lowering) body(list []api.Stmt) landing {
	outer := l.exits
	l.exits = nil
	l.statements(list)
	own := l.exits
	l.exits = outer
	return all(own)
}

// A loop's test stands behind its statements: a jump less is done each time.

func (l *lowering) whileLoop(s api.Stmt) {
	test := l.jump(api.OpJump)
	begin := l.here()
	exits := l.body(s.Body)
	test(l.here())
	l.step()
	l.jumpIf(s.E[0], true)(begin)
	exits(l.here())
}

func (l *lowering) repeatLoop(s api.Stmt) {
	begin := l.here()
	exits := l.body(s.Body)
	l.step()
	l.jumpIf(s.E[0], false)(begin)
	exits(l.here())
}

// blockCall assigns each argument as it is reckoned: those behind it may ask for
// the pin.
func (l *lowering) blockCall(s api.Stmt) {
	name := s.V.Name
	for _, a := range s.Args {
		l.number(a.E)
		l.store(l.cells.Of(name, a.Name).First)
	}
	block := l.names.Block(name)
	inputs, _ := types.Pins(block)
	l.add(api.Ins{Op: api.OpCall, A: l.cells.Of(name, inputs[0]).First, Name: block})
}
