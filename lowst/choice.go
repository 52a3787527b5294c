package lowst

import (
	"slices"

	"rung/api"
	"rung/emit"
)

// few is how many spans are asked for one by one: more are halved.
const few = 8

// choice: a CASE's, of which arm is done. Up to the arms the number lies on the
// stack.
type choice struct {
	*lowering
	kind int
	arms [][]emit.Landing // of each arm the jumps to it; the last one is ELSE's
}

func (l *lowering) caseStatement(s api.Stmt) {
	arms := s.Arms
	if len(arms[len(arms)-1].Labels) > 0 {
		arms = append(slices.Clone(arms), api.Arm{}) // ELSE, without statements
	}
	l.Number(s.E[0])
	c := choice{lowering: l, kind: s.E[0].Kind, arms: make([][]emit.Landing, len(arms))}
	c.choose(spansOf(arms))
	var ends []emit.Landing
	for i, arm := range arms {
		all(c.arms[i])(l.Here())
		l.Drop()
		l.statements(arm.Body)
		if i < len(arms)-1 {
			ends = append(ends, l.Jump(api.OpJump))
		}
	}
	all(ends)(l.Here())
}

// choose adds the jump to the arm that is of the number's span, ELSE's without
// one; spans are in order.
func (c *choice) choose(spans []span) {
	if len(spans) > few {
		half := len(spans) / 2
		c.compare(api.ExLt, spans[half].low)
		upper := c.Jump(api.OpZero)
		c.choose(spans[:half])
		upper(c.Here())
		c.choose(spans[half:])
		return
	}
	for _, s := range spans {
		c.ask(s)
	}
	c.take(len(c.arms)-1, api.OpJump)
}

// ask adds the jump to a span's arm if the number is in it.
func (c *choice) ask(s span) {
	if s.low == s.high {
		c.compare(api.ExEq, s.low)
		c.take(s.arm, api.OpOther)
		return
	}
	c.compare(api.ExGe, s.low)
	below := c.Jump(api.OpZero)
	c.compare(api.ExLe, s.high)
	c.take(s.arm, api.OpOther)
	below(c.Here())
}

// compare adds how the number, which stays, stands to n.
func (c *choice) compare(op int, n int64) {
	c.Dup()
	c.Push(c.kind, n)
	c.Apply(c.kind, op)
}

// take adds a jump to an arm.
func (c *choice) take(arm, op int) { c.arms[arm] = append(c.arms[arm], c.Jump(op)) }
