package check

import (
	"strings"

	"rung/api"
	"rung/num"
)

// What stands behind an operator.
const (
	unknown  = iota // there is no such operator
	nothing         // no operand
	value           // a literal, or a variable
	optional        // a value, or nothing
	place           // a label's name
	block           // a block's call
)

// behind tells what stands behind an operator.
func behind(op string) int {
	switch op {
	case "LD", "LDN", "ST", "STN", "S", "R":
		return value
	case "NOT", "RET", "RETC", "RETCN", ")":
		return nothing
	case "JMP", "JMPC", "JMPCN":
		return place
	case "CAL", "CALC", "CALCN":
		return block
	}
	base, open := strings.CutSuffix(op, "(")
	switch {
	case !isOperation(base):
		return unknown
	case open:
		return optional
	}
	return value
}

// isOperation tells whether op makes one number of the accumulator and its
// operand: it is one that some kind may have.
func isOperation(op string) bool { return mayApply(op, api.KBool) || mayApply(op, api.KInt) }

// mayApply tells whether an operation is one of that kind's numbers; false, if
// op is no operation.
func mayApply(op string, kind int) bool {
	switch op {
	case "AND", "ANDN", "OR", "ORN", "XOR", "XORN":
		return isBits(kind)
	case "ADD", "SUB":
		return isAmount(kind)
	case "MUL", "DIV", "MOD":
		return isInteger(kind)
	}
	return compares(op) && num.Scalar(kind)
}

func compares(op string) bool {
	switch op {
	case "GT", "GE", "EQ", "NE", "LE", "LT":
		return true
	}
	return false
}

// instructions looks at each by itself ahead of what they come to one behind
// the other.
func (c *checker) instructions(code []api.Inst) {
	labels := map[string]int{} // by label: the instruction where it stands first
	for i, in := range code {
		if _, ok := labels[in.Label]; !ok && in.Label != "" {
			labels[in.Label] = i
		}
	}
	for i, in := range code {
		must(in.Label == "" || labels[in.Label] == i, in.At, api.ErrLabel)
		must(isWhole(in), in.At, api.ErrOp)
		if behind(in.Op) == place {
			_, ok := labels[in.E[0].Name]
			must(ok, in.At, api.ErrLabel)
		}
	}
	r := reckoning{checker: c}
	for _, in := range code {
		r.step(in)
	}
	must(len(r.open) == 0, r.firstOpen(), api.ErrBracket)
}

// isWhole tells whether an instruction has what stands behind its operator, and
// no more.
func isWhole(in api.Inst) bool {
	if in.Op == "" {
		return in.Label != "" && len(in.E) == 0 && len(in.Args) == 0
	}
	what := behind(in.Op)
	if len(in.E) == 0 {
		return (what == nothing || what == optional) && len(in.Args) == 0
	}
	e := in.E[0]
	switch {
	case len(in.E) > 1:
		return false
	case what == block:
		return isName(e) && haveValues(in.Args)
	case len(in.Args) > 0:
		return false
	case what == place:
		return isName(e)
	}
	return (what == value || what == optional) && isValue(e)
}

func haveValues(args []api.Arg) bool {
	for _, a := range args {
		if !isValue(a.E) {
			return false
		}
	}
	return true
}

// isValue tells whether e is a literal, or its opposite, or a variable.
func isValue(e api.Expr) bool {
	if e.Op == api.ExNeg && len(e.L) == 1 {
		return e.L[0].Op == api.ExLit
	}
	return e.Op == api.ExLit || e.Op == api.ExVar
}
