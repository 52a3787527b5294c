package reckon

import (
	"rung/api"
	"rung/num"
)

// Number tells what e, which is elaborated, is, or the fault that its first
// operand from the left has, or that it has itself. All operands are reckoned,
// whether what is made of them hangs on them or not.
func (m *Memory) Number(e api.Expr) (int64, int) {
	switch e.Op {
	case api.ExLit:
		return e.N, api.FaultNone
	case api.ExVar:
		cell, fault := m.Cell(e)
		if fault != api.FaultNone {
			return 0, fault
		}
		return m.numbers[cell], api.FaultNone
	}
	var operands [3]int64
	for i, x := range e.L {
		n, fault := m.Number(x)
		if fault != api.FaultNone {
			return 0, fault
		}
		operands[i] = n
	}
	return apply(e, operands)
}

// apply tells what an operator, or a function, makes of its operands.
func apply(e api.Expr, operands [3]int64) (int64, int) {
	a, b := operands[0], operands[1]
	switch e.Op {
	case api.ExNeg:
		return num.Neg(e.Kind, a), api.FaultNone
	case api.ExNot:
		return num.Not(e.Kind, a), api.FaultNone
	case api.ExCall:
		return call(e, a, b, operands[2]), api.FaultNone
	}
	// A comparison is a BOOL, but it is done with numbers of its operands' kind.
	return num.Apply(e.Op, e.L[0].Kind, a, b)
}

// call tells what a function makes of up to three operands.
func call(e api.Expr, a, b, c int64) int64 {
	switch e.Name {
	case "ABS":
		if a < 0 {
			return num.Neg(e.Kind, a)
		}
		return a
	case "MIN":
		return min(a, b)
	case "MAX":
		return max(a, b)
	case "LIMIT":
		return min(max(a, b), c)
	case "SEL":
		if a != 0 {
			return c
		}
		return b
	case "SHL", "SHR", "ROL", "ROR":
		return num.Shift(e.Name, e.Kind, a, b)
	}
	return num.Convert(e.L[0].Kind, e.Kind, a)
}
