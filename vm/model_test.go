package vm_test

import (
	"math/big"
	"slices"

	"rung/api"
)

// model is a second machine, told by the chapters' words alone: with a stack
// that is a list, and numbers that are as great as they come out.
type model struct {
	c     api.Code
	cells []int64
	now   int64
	most  int
	steps int
	stack []int64
	at    int
}

// modelScan tells what a scan should, if it has at most so many instructions.
func modelScan(c api.Code, cells []int64, now int64, most, instructions int) (behind []int64, fault, steps int) {
	m := model{c: c, now: now, most: most, cells: make([]int64, len(c.Kinds))}
	for i, kind := range c.Kinds {
		if i < len(cells) {
			m.cells[i] = modelWrap(kind, big.NewInt(cells[i]))
		}
	}
	for done := 0; ; done++ {
		if done == instructions {
			return m.cells, api.FaultSteps, m.steps
		}
		x := c.L[m.at]
		m.at++
		if x.Op == api.OpEnd {
			return m.cells, api.FaultNone, m.steps
		}
		if fault := m.do(x); fault != api.FaultNone {
			return m.cells, fault, m.steps
		}
	}
}

// takes tells how many numbers an operator takes off; OpPick none: it looks.
var takes = map[int]int{
	api.OpStore: 1, api.OpLoadAt: 1, api.OpCheckAt: 1, api.OpStoreAt: 2, api.OpNeg: 1, api.OpNot: 1, api.OpApply: 2, api.OpConvert: 1,
	api.OpShift: 2, api.OpAbs: 1, api.OpMin: 2, api.OpMax: 2, api.OpSel: 3, api.OpDup: 1, api.OpDrop: 1, api.OpZero: 1, api.OpOther: 1,
}

func (m *model) do(x api.Ins) int {
	below := len(m.stack) - takes[x.Op]
	n := slices.Clone(m.stack[below:])
	m.stack = m.stack[:below]
	switch x.Op {
	case api.OpJump:
		m.at = x.A
	case api.OpZero:
		if n[0] == 0 {
			m.at = x.A
		}
	case api.OpOther:
		if n[0] != 0 {
			m.at = x.A
		}
	case api.OpStep:
		if m.steps >= max(m.most, 0) {
			return api.FaultSteps
		}
		m.steps++
	case api.OpStore:
		m.cells[x.A] = modelWrap(m.c.Kinds[x.A], big.NewInt(n[0]))
	case api.OpCall:
		kinds, _ := blockKinds(x.Name)
		own := m.cells[x.A : x.A+len(kinds)]
		copy(own, byFb(x.Name, slices.Clone(own), m.now))
	case api.OpLoadAt, api.OpCheckAt, api.OpStoreAt:
		return m.element(x, n)
	default:
		on, fault := m.puts(x, n)
		m.stack = append(m.stack, on...)
		return fault
	}
	return api.FaultNone
}

func (m *model) element(x api.Ins, n []int64) int {
	for i := range x.B {
		if n[0] != x.C+int64(i) {
			continue
		}
		switch x.Op {
		case api.OpLoadAt:
			m.stack = append(m.stack, m.cells[x.A+i])
		case api.OpCheckAt:
			m.stack = append(m.stack, n[0])
		default:
			m.cells[x.A+i] = modelWrap(m.c.Kinds[x.A+i], big.NewInt(n[1]))
		}
		return api.FaultNone
	}
	return api.FaultIndex
}

// puts tells what an instruction puts on, of those that it took off.
func (m *model) puts(x api.Ins, n []int64) ([]int64, int) {
	wrapped := make([]*big.Int, len(n))
	for i := range n {
		wrapped[i] = big.NewInt(modelWrap(x.A, big.NewInt(n[i])))
	}
	one := func(b *big.Int) ([]int64, int) { return []int64{modelWrap(x.A, b)}, api.FaultNone }
	switch x.Op {
	case api.OpPush:
		return one(big.NewInt(x.C))
	case api.OpLoad:
		return []int64{m.cells[x.A]}, api.FaultNone
	case api.OpNeg:
		return one(wrapped[0].Neg(wrapped[0]))
	case api.OpAbs:
		return one(wrapped[0].Abs(wrapped[0]))
	case api.OpNot:
		if x.A == api.KBool {
			return []int64{1 - wrapped[0].Int64()}, api.FaultNone
		}
		return one(wrapped[0].Not(wrapped[0]))
	case api.OpConvert:
		return []int64{modelWrap(x.B, wrapped[0])}, api.FaultNone
	case api.OpShift:
		return one(modelShift(x, wrapped[0], n[1]))
	case api.OpApply:
		if wrapped[1].Sign() == 0 && (x.B == api.ExDiv || x.B == api.ExMod) {
			return nil, api.FaultZero
		}
		return one(modelApply(x.B, wrapped[0], wrapped[1]))
	}
	return m.handOn(x, n), api.FaultNone
}

func (m *model) handOn(x api.Ins, n []int64) []int64 {
	switch x.Op {
	case api.OpMin:
		return []int64{slices.Min(n)}
	case api.OpMax:
		return []int64{slices.Max(n)}
	case api.OpSel:
		if n[0] == 0 {
			return n[1:2]
		}
		return n[2:3]
	case api.OpDup:
		return []int64{n[0], n[0]}
	case api.OpPick:
		return []int64{m.stack[len(m.stack)-1-x.A]}
	}
	return nil
}

// widths of kinds that are no BOOL, and whether numbers below 0 are of them.
var widths = map[int]struct {
	bits   uint
	signed bool
}{
	api.KSint: {8, true}, api.KInt: {16, true}, api.KDint: {32, true}, api.KTime: {32, true},
	api.KUsint: {8, false}, api.KUint: {16, false}, api.KUdint: {32, false}, api.KByte: {8, false}, api.KWord: {16, false}, api.KDword: {32, false},
}

// modelWrap adds or takes away the kind's whole round.
func modelWrap(kind int, n *big.Int) int64 {
	if kind == api.KBool {
		return int64(n.Sign() * n.Sign())
	}
	w := widths[kind]
	round := new(big.Int).Lsh(big.NewInt(1), w.bits)
	left := new(big.Int).Mod(n, round)
	if w.signed && left.Bit(int(max(w.bits, 1)-1)) == 1 {
		left.Sub(left, round)
	}
	return left.Int64()
}

func modelApply(operator int, a, b *big.Int) *big.Int {
	z := new(big.Int)
	is := func(holds bool) *big.Int {
		if holds {
			z.SetInt64(1)
		}
		return z
	}
	order := a.Cmp(b)
	switch operator {
	case api.ExMul:
		return z.Mul(a, b)
	case api.ExDiv:
		return z.Quo(a, b)
	case api.ExMod:
		return z.Rem(a, b)
	case api.ExAdd:
		return z.Add(a, b)
	case api.ExSub:
		return z.Sub(a, b)
	case api.ExLt:
		return is(order < 0)
	case api.ExGt:
		return is(order > 0)
	case api.ExLe:
		return is(order <= 0)
	case api.ExGe:
		return is(order >= 0)
	case api.ExEq:
		return is(order == 0)
	case api.ExNe:
		return is(order != 0)
	case api.ExAnd:
		return z.And(a, b)
	case api.ExXor:
		return z.Xor(a, b)
	}
	return z.Or(a, b)
}

func modelShift(x api.Ins, a *big.Int, n int64) *big.Int {
	width := int64(widths[x.A].bits)
	n = max(n, 0)
	round := uint(n % width)
	up, down := new(big.Int).Lsh(a, round), new(big.Int).Rsh(a, uint(width)-round)
	switch x.Name {
	case "SHL":
		return new(big.Int).Lsh(a, uint(min(n, width)))
	case "SHR":
		return new(big.Int).Rsh(a, uint(min(n, width)))
	case "ROL":
		return up.Or(up, down)
	}
	up, down = new(big.Int).Lsh(a, uint(width)-round), new(big.Int).Rsh(a, round)
	return up.Or(up, down)
}
