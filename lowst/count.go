package lowst

import (
	"rung/api"
	"rung/emit"
)

// count: a FOR's. From its first test to its end the number that it came from
// lies on the stack, above it the one that it goes to, and above this the one
// that it goes by, unless that is a literal.
type count struct {
	*lowering
	cell    int   // the variable's
	kind    int   // the variable's
	by      int64 // what it goes by, if that is a literal
	literal bool  // whether it is
}

func (l *lowering) countOf(s api.Stmt) count {
	c := count{lowering: l, cell: l.Cells.Of(s.V.Name, "").First, kind: s.V.Kind, by: 1, literal: true}
	if len(s.E) == 3 {
		c.by, c.literal = s.E[2].N, s.E[2].Op == api.ExLit
	}
	return c
}

func (l *lowering) forLoop(s api.Stmt) {
	c := l.countOf(s)
	held := 3
	if c.literal {
		held = 2
	}
	l.Numbers(s.E[:held])
	l.Pick(held - 1)
	l.Store(c.cell)
	test := l.Jump(api.OpJump)
	begin := l.Here()
	exits := l.body(s.Body)
	past := c.next()
	test(l.Here())
	l.Step()
	c.jumpOn()(begin)
	end := l.Jump(api.OpJump)
	past(l.Here())
	l.Drop() // the sum that the variable isn't
	end(l.Here())
	exits(l.Here())
	for range held {
		l.Drop()
	}
}

// next lets the variable be the sum of its number and what it goes by, unless
// the kind hasn't that: then the jump is done, and the sum, wrapped, still lies
// on the stack. It was wrapped if it is less though nothing below 0 was added,
// or if it isn't though something below 0 was.
func (c *count) next() emit.Landing {
	c.Load(c.cell)
	c.goBy(1)
	c.Apply(c.kind, api.ExAdd)
	c.Dup()
	c.Load(c.cell)
	c.Apply(c.kind, api.ExLt)
	op := api.OpOther
	if !c.literal {
		c.down(2)
		c.Apply(api.KBool, api.ExNe)
	} else if c.by < 0 {
		op = api.OpZero
	}
	past := c.Jump(op)
	c.Store(c.cell)
	return past
}

// jumpOn adds the jump that is done if the variable isn't past the number that
// it goes to.
func (c *count) jumpOn() emit.Landing {
	switch {
	case !c.literal:
		c.down(0)
		c.compare(api.ExLe, 1)
		c.compare(api.ExGe, 2)
		c.Sel()
	case c.by < 0:
		c.compare(api.ExGe, 0)
	default:
		c.compare(api.ExLe, 0)
	}
	return c.Jump(api.OpOther)
}

// down adds whether it goes by something below 0, which is no literal. Here and
// below, above tells how many numbers lie above the count's.
func (c *count) down(above int) {
	c.goBy(above)
	c.Push(c.kind, 0)
	c.Apply(c.kind, api.ExLt)
}

// compare adds how the variable stands to the number that it goes to.
func (c *count) compare(op, above int) {
	c.Load(c.cell)
	c.goTo(above + 1)
	c.Apply(c.kind, op)
}

func (c *count) goBy(above int) {
	if c.literal {
		c.Push(c.kind, c.by)
		return
	}
	c.Pick(above)
}

func (c *count) goTo(above int) {
	if !c.literal {
		above++
	}
	c.Pick(above)
}
