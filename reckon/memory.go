// Package reckon: what programs of both languages mean alike: the numbers of
// their cells, expressions over these, blocks' calls. Programs are such that
// check.Check takes them.
package reckon

import (
	"rung/api"
	"rung/fb"
	"rung/num"
	"rung/types"
)

// Memory: the numbers of a program's cells, and which cells its names are of.
type Memory struct {
	p       api.Prog
	numbers []int64
	places  map[place]stretch
}

// place: a variable's name, and that of a field, or a pin, or none.
type place struct{ name, field string }

// stretch: the cells of a place, the first one's number, and the indices of the
// first and the last one: an array has several.
type stretch struct{ first, low, high int }

// NewMemory takes the numbers that there are, wrapped; those that are missing
// are 0.
func NewMemory(p api.Prog, given []int64) *Memory {
	cells := types.Cells(p)
	m := &Memory{p: p, numbers: make([]int64, len(cells)), places: map[place]stretch{}}
	for i, cell := range cells {
		if i < len(given) {
			m.numbers[i] = num.Wrap(cell.Kind, given[i])
		}
		at := place{p.Vars[cell.Var].Name, cell.Field}
		s, ok := m.places[at]
		if !ok {
			s = stretch{first: i, low: cell.Index}
		}
		s.high = cell.Index
		m.places[at] = s
	}
	return m
}

// Numbers tells the numbers of all cells, in order: the memory's own list, for
// one that is done with it.
func (m *Memory) Numbers() []int64 { return m.numbers }

// Get tells the number of a cell.
func (m *Memory) Get(cell int) int64 { return m.numbers[cell] }

// Set assigns a number of its kind to a cell.
func (m *Memory) Set(cell int, n int64) { m.numbers[cell] = n }

// Cell tells the number of the cell that a variable is: e is elaborated.
func (m *Memory) Cell(e api.Expr) (int, int) {
	s := m.places[place{e.Name, e.Field}]
	if len(e.L) == 0 {
		return s.first, api.FaultNone
	}
	index, fault := m.Number(e.L[0])
	if fault != api.FaultNone {
		return 0, fault
	}
	if index < int64(s.low) || index > int64(s.high) {
		return 0, api.FaultIndex
	}
	return s.first + int(index) - s.low, api.FaultNone
}

// Call does a block's call. It assigns the arguments, which are elaborated, one
// by one, so that those behind see those ahead, and then what the block's step
// makes of its cells.
func (m *Memory) Call(name string, args []api.Arg, now int64) int {
	for _, a := range args {
		n, fault := m.Number(a.E)
		if fault != api.FaultNone {
			return fault
		}
		m.numbers[m.first(name, a.Name)] = n
	}
	t, _ := types.TypeOf(m.p, name)
	inputs, outputs := types.Pins(t.Name)
	in := m.numbers[m.first(name, inputs[0]):][:len(inputs)]
	out := m.numbers[m.first(name, outputs[0]):][:len(outputs)]
	kept := m.numbers[m.first(name, "1"):][:3]
	told, keep := fb.Step(t.Name, in, [3]int64{kept[0], kept[1], kept[2]}, out, now)
	copy(out, told)
	copy(kept, keep[:])
	return api.FaultNone
}

// first tells the number of the cell of a block's pin, or of what it keeps.
func (m *Memory) first(name, field string) int { return m.places[place{name, field}].first }
