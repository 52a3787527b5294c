package emit

import (
	"rung/api"
	"rung/types"
)

// Number adds what puts e's number on the stack. Here, as everywhere behind
// check, expressions are elaborated.
func (m *Emitter) Number(e api.Expr) {
	switch e.Op {
	case api.ExLit:
		m.Push(e.Kind, e.N)
	case api.ExVar:
		m.variable(e)
	case api.ExCall:
		m.function(e)
	case api.ExNeg:
		m.Number(e.L[0])
		m.add(api.Ins{Op: api.OpNeg, A: e.Kind})
	case api.ExNot:
		m.Number(e.L[0])
		m.Not(e.Kind)
	default:
		m.Numbers(e.L)
		// A comparison is a BOOL, but it is done with numbers of its operands' kind.
		m.Apply(e.L[0].Kind, e.Op)
	}
}

// Numbers adds several, the last one topmost.
func (m *Emitter) Numbers(all []api.Expr) {
	for _, e := range all {
		m.Number(e)
	}
}

func (m *Emitter) variable(e api.Expr) {
	if cell, ok := m.Fixed(e); ok {
		m.Load(cell)
		return
	}
	m.Number(e.L[0])
	m.Element(api.OpLoadAt, e)
}

// Fixed tells the cell that a variable always is: it has no index, or one that
// is a literal, and there is such an element.
func (m *Emitter) Fixed(e api.Expr) (int, bool) {
	s := m.Cells.Of(e.Name, e.Field)
	if len(e.L) == 0 {
		return s.First, true
	}
	index := e.L[0]
	if index.Op != api.ExLit || index.N < int64(s.Low) || index.N > int64(s.High) {
		return 0, false
	}
	return s.First + int(index.N) - s.Low, true
}

// Element adds an instruction of the array that e is an element of; the index
// lies on the stack.
func (m *Emitter) Element(op int, e api.Expr) {
	s := m.Cells.Of(e.Name, e.Field)
	m.add(api.Ins{Op: op, A: s.First, B: s.High - s.Low + 1, C: int64(s.Low)})
}

func (m *Emitter) function(e api.Expr) {
	if e.Name == "LIMIT" {
		m.limit(e)
		return
	}
	m.Numbers(e.L)
	switch e.Name {
	case "ABS":
		m.add(api.Ins{Op: api.OpAbs, A: e.Kind})
	case "MIN":
		m.add(api.Ins{Op: api.OpMin})
	case "MAX":
		m.add(api.Ins{Op: api.OpMax})
	case "SEL":
		m.Sel()
	case "SHL", "SHR", "ROL", "ROR":
		m.add(api.Ins{Op: api.OpShift, A: e.Kind, Name: e.Name})
	default:
		m.add(api.Ins{Op: api.OpConvert, A: e.L[0].Kind, B: e.Kind})
	}
}

// limit makes one number of the first two ahead of the third: only the topmost
// two can be taken together.
func (m *Emitter) limit(e api.Expr) {
	m.Numbers(e.L[:2])
	m.add(api.Ins{Op: api.OpMax})
	m.Number(e.L[2])
	m.add(api.Ins{Op: api.OpMin})
}

// BlockCall assigns each argument as it is reckoned: those behind it may ask for
// the pin.
func (m *Emitter) BlockCall(name string, args []api.Arg) {
	for _, a := range args {
		m.Number(a.E)
		m.Store(m.Cells.Of(name, a.Name).First)
	}
	block := m.Names.Block(name)
	inputs, _ := types.Pins(block)
	m.add(api.Ins{Op: api.OpCall, A: m.Cells.Of(name, inputs[0]).First, Name: block})
}
