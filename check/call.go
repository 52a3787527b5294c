package check

import (
	"strings"

	"rung/api"
	"rung/num"
)

// operandsOf tells how many operands a function has; 0, if there is none of
// that name.
func operandsOf(name string) int {
	switch name {
	case "LIMIT", "SEL":
		return 3
	case "MIN", "MAX", "SHL", "SHR", "ROL", "ROR":
		return 2
	case "ABS":
		return 1
	}
	if from, to := conversion(name); from != 0 && to != 0 {
		return 1
	}
	return 0
}

// conversion tells between which two kinds a function converts; 0 of what is
// no kind's word.
func conversion(name string) (int, int) {
	from, to, _ := strings.Cut(name, "_TO_")
	return num.Kind(from), num.Kind(to)
}

func (c *checker) call(e api.Expr, want int) api.Expr {
	must(len(e.L) > 0 && len(e.L) == operandsOf(e.Name), e.At, api.ErrCall)
	x := api.Expr{Op: api.ExCall, Name: e.Name, At: e.At}
	switch e.Name {
	case "ABS":
		x.L = c.alike(e.L, want, num.Signed)
		x.Kind = x.L[0].Kind
	case "MIN", "MAX", "LIMIT":
		x.L = c.alike(e.L, want, isAmount)
		x.Kind = x.L[0].Kind
	case "SEL":
		which := c.elab(e.L[0], api.KBool)
		x.L = append([]api.Expr{which}, c.alike(e.L[1:], want, num.Scalar)...)
		x.Kind = x.L[1].Kind
	case "SHL", "SHR", "ROL", "ROR":
		x.L = append(c.alike(e.L[:1], want, isString), c.elab(e.L[1], api.KUint))
		x.Kind = x.L[0].Kind
	default:
		from, to := conversion(e.Name)
		x.L = []api.Expr{c.elab(e.L[0], from)}
		x.Kind = to
	}
	return x
}

// alike tells operands that are all of the first one's kind, which is one that
// the call may have.
func (c *checker) alike(operands []api.Expr, want int, may func(int) bool) []api.Expr {
	first := c.elab(operands[0], want)
	must(may(first.Kind), first.At, api.ErrKind)
	all := []api.Expr{first}
	for _, e := range operands[1:] {
		all = append(all, c.elab(e, first.Kind))
	}
	return all
}
