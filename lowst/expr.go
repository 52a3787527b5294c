package lowst

import (
	"rung/api"
	"rung/names"
)

// number adds what puts e's number on the stack. Here, as everywhere behind
// Lower, expressions are elaborated.
func (l *lowering) number(e api.Expr) {
	switch e.Op {
	case api.ExLit:
		l.push(e.Kind, e.N)
	case api.ExVar:
		l.variable(e)
	case api.ExCall:
		l.function(e)
	case api.ExNeg:
		l.number(e.L[0])
		l.add(api.Ins{Op: api.OpNeg, A: e.Kind})
	case api.ExNot:
		l.number(e.L[0])
		l.add(api.Ins{Op: api.OpNot, A: e.Kind})
	default:
		l.numbers(e.L)
		// A comparison is a BOOL, but it is done with numbers of its operands' kind.
		l.apply(e.L[0].Kind, e.Op)
	}
}

func (l *lowering) numbers(all []api.Expr) {
	for _, e := range all {
		l.number(e)
	}
}

func (l *lowering) variable(e api.Expr) {
	s := l.cells.Of(e.Name, e.Field)
	if cell, ok := fixed(s, e); ok {
		l.load(cell)
		return
	}
	l.number(e.L[0])
	l.element(api.OpLoadAt, s)
}

// fixed tells the cell that a variable always is: it has no index, or one that
// is a literal, and there is such an element.
func fixed(s names.Stretch, e api.Expr) (int, bool) {
	if len(e.L) == 0 {
		return s.First, true
	}
	index := e.L[0]
	if index.Op != api.ExLit || index.N < int64(s.Low) || index.N > int64(s.High) {
		return 0, false
	}
	return s.First + int(index.N) - s.Low, true
}

func (l *lowering) function(e api.Expr) {
	if e.Name == "LIMIT" {
		l.limit(e)
		return
	}
	l.numbers(e.L)
	switch e.Name {
	case "ABS":
		l.add(api.Ins{Op: api.OpAbs, A: e.Kind})
	case "MIN":
		l.add(api.Ins{Op: api.OpMin})
	case "MAX":
		l.add(api.Ins{Op: api.OpMax})
	case "SEL":
		l.add(api.Ins{Op: api.OpSel})
	case "SHL", "SHR", "ROL", "ROR":
		l.add(api.Ins{Op: api.OpShift, A: e.Kind, Name: e.Name})
	default:
		l.add(api.Ins{Op: api.OpConvert, A: e.L[0].Kind, B: e.Kind})
	}
}

// limit makes one number of the first two ahead of the third: only the topmost
// two can be taken together.
func (l *lowering) limit(e api.Expr) {
	l.numbers(e.L[:2])
	l.add(api.Ins{Op: api.OpMax})
	l.number(e.L[2])
	l.add(api.Ins{Op: api.OpMin})
}
