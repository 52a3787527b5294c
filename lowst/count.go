package lowst

import "rung/api"

// count: a FOR's. From its first test to its end the number that it came from
// lies on the stack, above it the one that it goes to, and above this the one
// that it goes by, unless that is a literal.
type count struct {
	*lowering
	cell    int   // the variable's
	kind    int   // the variable's
	by      int64 // what it goes by, if that is a literal
	literal bool  // whether it is
}

func (l *lowering) countOf(s api.Stmt) count {
	c := count{lowering: l, cell: l.cells.Of(s.V.Name, "").First, kind: s.V.Kind, by: 1, literal: true}
	if len(s.E) == 3 {
		c.by, c.literal = s.E[2].N, s.E[2].Op == api.ExLit
	}
	return c
}

func (l *lowering) forLoop(s api.Stmt) {
	c := l.countOf(s)
	held := 3
	if c.literal {
		held = 2
	}
	l.numbers(s.E[:held])
	l.pick(held - 1)
	l.store(c.cell)
	test := l.jump(api.OpJump)
	begin := l.here()
	exits := l.body(s.Body)
	past := c.next()
	test(l.here())
	l.step()
	c.jumpOn()(begin)
	end := l.jump(api.OpJump)
	past(l.here())
	l.drop() // the sum that the variable isn't
	end(l.here())
	exits(l.here())
	for range held {
		l.drop()
	}
}

// next lets the variable be the sum of its number and what it goes by, unless
// the kind hasn't that: then the jump is done, and the sum, wrapped, still lies
// on the stack. It was wrapped if it is less though nothing below 0 was added,
// or if it isn't though something below 0 was.
func (c *count) next() landing {
	c.load(c.cell)
	c.goBy(1)
	c.apply(c.kind, api.ExAdd)
	c.dup()
	c.load(c.cell)
	c.apply(c.kind, api.ExLt)
	op := api.OpOther
	if !c.literal {
		c.down(2)
		c.apply(api.KBool, api.ExNe)
	} else if c.by < 0 {
		op = api.OpZero
	}
	past := c.jump(op)
	c.store(c.cell)
	return past
}

// jumpOn adds the jump that is done if the variable isn't past the number that
// it goes to.
func (c *count) jumpOn() landing {
	switch {
	case !c.literal:
		c.down(0)
		c.compare(api.ExLe, 1)
		c.compare(api.ExGe, 2)
		c.add(api.Ins{Op: api.OpSel})
	case c.by < 0:
		c.compare(api.ExGe, 0)
	default:
		c.compare(api.ExLe, 0)
	}
	return c.jump(api.OpOther)
}

// down adds whether it goes by something below 0, which is no literal. Here and
// below, above tells how many numbers lie above the count's.
func (c *count) down(above int) {
	c.goBy(above)
	c.push(c.kind, 0)
	c.apply(c.kind, api.ExLt)
}

// compare adds how the variable stands to the number that it goes to.
func (c *count) compare(op, above int) {
	c.load(c.cell)
	c.goTo(above + 1)
	c.apply(c.kind, op)
}

func (c *count) goBy(above int) {
	if c.literal {
		c.push(c.kind, c.by)
		return
	}
	c.pick(above)
}

func (c *count) goTo(above int) {
	if !c.literal {
		above++
	}
	c.pick(above)
}
