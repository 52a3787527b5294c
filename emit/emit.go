// Package emit: bytecode, as it is made: instructions one behind the other,
// jumps, and what programs of both languages mean alike: numbers of expressions,
// blocks' calls. Programs are such that check.Check takes them.
package emit

import (
	"rung/api"
	"rung/code"
	"rung/names"
)

// Emitter: a program's code, as far as it is made.
type Emitter struct {
	Names names.Names
	Cells names.Cells
	code  []api.Ins
}

// New tells one that has no instruction yet.
func New(p api.Prog) *Emitter { return &Emitter{Names: names.Of(p), Cells: names.CellsOf(p)} }

// Whole ends the code, and tells it. It is right, but for its size, by the way
// in which it is made.
func (m *Emitter) Whole() (api.Code, error) {
	m.End()
	c := api.Code{L: m.code}
	for _, cell := range m.Cells.L {
		c.Kinds = append(c.Kinds, cell.Kind)
	}
	if code.Verify(c) != nil {
		return api.Code{}, &api.PlaceError{At: 0, Err: api.ErrRoom}
	}
	return c, nil
}

// add adds an instruction, unless there are too many already: then nothing is
// made of the code but a refusal.
func (m *Emitter) add(x api.Ins) {
	if len(m.code) <= api.MaxCode {
		m.code = append(m.code, x)
	}
}

// Here tells the number of the instruction that will be added next.
func (m *Emitter) Here() int { return len(m.code) }

// Landing lets a jump that was added go on to an instruction.
type Landing func(to int)

// Jump adds one whose target isn't known yet.
func (m *Emitter) Jump(op int) Landing {
	m.add(api.Ins{Op: op})
	at := len(m.code) - 1
	return func(to int) { m.code[at].A = to }
}

// Push adds a number of that kind.
func (m *Emitter) Push(kind int, n int64) { m.add(api.Ins{Op: api.OpPush, A: kind, C: n}) }

// Pick adds a copy of the number that has so many others above it.
func (m *Emitter) Pick(others int) { m.add(api.Ins{Op: api.OpPick, A: others}) }

// Load adds a cell's number.
func (m *Emitter) Load(cell int) { m.add(api.Ins{Op: api.OpLoad, A: cell}) }

// Store adds what assigns to a cell.
func (m *Emitter) Store(cell int) { m.add(api.Ins{Op: api.OpStore, A: cell}) }

// Step adds a step.
func (m *Emitter) Step() { m.add(api.Ins{Op: api.OpStep}) }

// Dup adds a copy of the topmost number.
func (m *Emitter) Dup() { m.add(api.Ins{Op: api.OpDup}) }

// Drop adds what takes the topmost number off.
func (m *Emitter) Drop() { m.add(api.Ins{Op: api.OpDrop}) }

// Sel adds the choice between the topmost two numbers by the third.
func (m *Emitter) Sel() { m.add(api.Ins{Op: api.OpSel}) }

// Not adds the opposite of the topmost number's bits.
func (m *Emitter) Not(kind int) { m.add(api.Ins{Op: api.OpNot, A: kind}) }

// Apply adds an operator of the topmost two numbers, which are of that kind.
func (m *Emitter) Apply(kind, op int) { m.add(api.Ins{Op: api.OpApply, A: kind, B: op}) }

// End adds the scan's end.
func (m *Emitter) End() { m.add(api.Ins{Op: api.OpEnd}) }
