// Package reckon: what programs of both languages mean alike: the numbers of
// their cells, expressions over these, blocks' calls. Programs are such that
// check.Check takes them.
package reckon

import (
	"rung/api"
	"rung/fb"
	"rung/names"
	"rung/num"
	"rung/types"
)

// Memory: the numbers of a program's cells, and which cells its names are of.
type Memory struct {
	p       api.Prog
	cells   names.Cells
	numbers []int64
}

// NewMemory takes the numbers that there are, wrapped; those that are missing
// are 0.
func NewMemory(p api.Prog, given []int64) *Memory {
	cells := names.CellsOf(p)
	m := &Memory{p: p, cells: cells, numbers: make([]int64, len(cells.L))}
	for i, cell := range cells.L {
		if i < len(given) {
			m.numbers[i] = num.Wrap(cell.Kind, given[i])
		}
	}
	return m
}

// Numbers tells the numbers of all cells, in order: the memory's own list, for
// one that is done with it.
func (m *Memory) Numbers() []int64 { return m.numbers }

// Get tells the number of a cell.
func (m *Memory) Get(cell int) int64 { return m.numbers[cell] }

// Set assigns a number of its kind to a cell.
func (m *Memory) Set(cell int, n int64) { m.numbers[cell] = n }

// Cell tells the number of the cell that a variable is: e is elaborated.
func (m *Memory) Cell(e api.Expr) (int, int) {
	s := m.cells.Of(e.Name, e.Field)
	if len(e.L) == 0 {
		return s.First, api.FaultNone
	}
	index, fault := m.Number(e.L[0])
	if fault != api.FaultNone {
		return 0, fault
	}
	if index < int64(s.Low) || index > int64(s.High) {
		return 0, api.FaultIndex
	}
	return s.First + int(index) - s.Low, api.FaultNone
}

// Call does a block's call. It assigns the arguments, which are elaborated, one
// by one, so that those behind see those ahead, and then what the block's step
// makes of its cells.
func (m *Memory) Call(name string, args []api.Arg, now int64) int {
	for _, a := range args {
		n, fault := m.Number(a.E)
		if fault != api.FaultNone {
			return fault
		}
		m.numbers[m.first(name, a.Name)] = n
	}
	t, _ := types.TypeOf(m.p, name)
	inputs, outputs := types.Pins(t.Name)
	in := m.numbers[m.first(name, inputs[0]):][:len(inputs)]
	out := m.numbers[m.first(name, outputs[0]):][:len(outputs)]
	kept := m.numbers[m.first(name, "1"):][:3]
	told, keep := fb.Step(t.Name, in, [3]int64{kept[0], kept[1], kept[2]}, out, now)
	copy(out, told)
	copy(kept, keep[:])
	return api.FaultNone
}

// first tells the number of the cell of a block's pin, or of what it keeps.
func (m *Memory) first(name, field string) int { return m.cells.Of(name, field).First }
