package check

import (
	"rung/api"
	"rung/num"
	"rung/types"
)

// elab tells e with its kinds. It refuses trees that no text is read as, with
// too few operands or too many, for ErrKind.
func (c *checker) elab(e api.Expr, want int) api.Expr {
	c.enter(e.At)
	x := c.kinded(e, want)
	c.leave()
	must(want == 0 || want == x.Kind, e.At, api.ErrKind)
	return x
}

func (c *checker) kinded(e api.Expr, want int) api.Expr {
	if n, ok := plain(e); ok {
		return plainOf(n, want, e.At)
	}
	switch e.Op {
	case api.ExLit:
		return typed(e)
	case api.ExVar:
		return c.variable(e)
	case api.ExNeg:
		return c.unary(e, want, num.Signed)
	case api.ExNot:
		return c.unary(e, want, isBits)
	case api.ExAdd, api.ExSub:
		return c.binary(e, want, isAmount)
	case api.ExMul, api.ExDiv, api.ExMod:
		return c.binary(e, want, isInteger)
	case api.ExAnd, api.ExXor, api.ExOr:
		return c.binary(e, want, isBits)
	case api.ExLt, api.ExGt, api.ExLe, api.ExGe, api.ExEq, api.ExNe:
		return api.Expr{Op: e.Op, Kind: api.KBool, L: c.pair(e, 0), At: e.At}
	case api.ExCall:
		return c.call(e, want)
	}
	panic(refusal{e.At, api.ErrKind})
}

// plain tells the number of a plain literal; false, if e is none.
func plain(e api.Expr) (int64, bool) {
	if e.Op == api.ExNeg && len(e.L) == 1 {
		// The least number's opposite wraps round to itself: no kind has it.
		return -e.L[0].N, isUntyped(e.L[0])
	}
	return e.N, isUntyped(e)
}

func isPlain(e api.Expr) bool {
	_, ok := plain(e)
	return ok
}

func isUntyped(e api.Expr) bool { return e.Op == api.ExLit && e.Kind == 0 }

// plainOf tells a plain literal as one of the kind that it is asked for.
func plainOf(n int64, want, at int) api.Expr {
	must(want != api.KTime, at, api.ErrKind)
	if !num.Scalar(want) {
		want = api.KDint
	}
	return literal(want, n, at)
}

// typed tells a typed literal again. No text has one whose number isn't of its
// kind.
func typed(e api.Expr) api.Expr {
	must(num.Scalar(e.Kind), e.At, api.ErrKind)
	return literal(e.Kind, e.N, e.At)
}

func literal(kind int, n int64, at int) api.Expr {
	least, greatest := num.Range(kind)
	must(least <= n && n <= greatest, at, api.ErrConst)
	return api.Expr{Op: api.ExLit, Kind: kind, N: n, At: at}
}

// variable tells a scalar variable, a field or a pin, or an array's element.
func (c *checker) variable(e api.Expr) api.Expr {
	t, ok := types.TypeOf(c.p, e.Name)
	must(ok, e.At, api.ErrName)
	x := api.Expr{Op: api.ExVar, Kind: t.Kind, Name: e.Name, Field: e.Field, At: e.At}
	switch {
	case e.Field != "":
		x.Kind, ok = types.FieldOf(c.p, t, e.Field)
		must(ok, e.At, api.ErrName)
		must(len(e.L) == 0, e.At, api.ErrKind)
	case len(e.L) > 0:
		must(t.Kind == api.KArray && len(e.L) == 1, e.At, api.ErrKind)
		x.Kind, x.L = t.Elem, []api.Expr{c.index(e.L[0])}
	default:
		must(num.Scalar(t.Kind), e.At, api.ErrKind)
	}
	return x
}

func (c *checker) index(e api.Expr) api.Expr {
	want := 0
	if isPlain(e) {
		want = api.KDint
	}
	x := c.elab(e, want)
	must(x.Kind != api.KBool && x.Kind != api.KTime, e.At, api.ErrKind)
	return x
}

func (c *checker) unary(e api.Expr, want int, may func(int) bool) api.Expr {
	must(len(e.L) == 1, e.At, api.ErrKind)
	x := c.elab(e.L[0], want)
	must(may(x.Kind), e.At, api.ErrKind)
	return api.Expr{Op: e.Op, Kind: x.Kind, L: []api.Expr{x}, At: e.At}
}

func (c *checker) binary(e api.Expr, want int, may func(int) bool) api.Expr {
	both := c.pair(e, want)
	kind := both[0].Kind
	must(may(kind), e.At, api.ErrKind)
	return api.Expr{Op: e.Op, Kind: kind, L: both, At: e.At}
}

// pair tells two operands, both of one kind: that of the left one, unless it
// is plain and takes the right one's.
func (c *checker) pair(e api.Expr, want int) []api.Expr {
	must(len(e.L) == 2, e.At, api.ErrKind)
	both := make([]api.Expr, 2)
	first, second := 0, 1
	if isPlain(e.L[0]) && !isPlain(e.L[1]) {
		first, second = 1, 0
	}
	both[first] = c.elab(e.L[first], want)
	both[second] = c.elab(e.L[second], both[first].Kind)
	return both
}

// isInteger: SINT to UDINT, kinds that are reckoned with.
func isInteger(kind int) bool { return num.Scalar(kind) && !isBits(kind) && kind != api.KTime }

// isAmount: what may be added, and has an order.
func isAmount(kind int) bool { return isInteger(kind) || kind == api.KTime }

// isBits: what is made of bits, one or several.
func isBits(kind int) bool { return kind == api.KBool || isString(kind) }

// isString: strings of bits, which may be shifted.
func isString(kind int) bool {
	return kind == api.KByte || kind == api.KWord || kind == api.KDword
}
