package sem

import (
	"rung/api"
	"rung/num"
	"rung/types"
)

// memory: the numbers of a program's cells, and which cells its names are of.
type memory struct {
	numbers []int64
	places  map[place]stretch
}

// place: a variable's name, and that of a field, or a pin, or none.
type place struct{ name, field string }

// stretch: the cells of a place, the first one's number, and the indices of the
// first and the last one: an array has several.
type stretch struct{ first, low, high int }

// newMemory takes the numbers that there are, wrapped; those that are missing
// are 0.
func newMemory(p api.Prog, given []int64) memory {
	cells := types.Cells(p)
	m := memory{numbers: make([]int64, len(cells)), places: map[place]stretch{}}
	for i, cell := range cells {
		if i < len(given) {
			m.numbers[i] = num.Wrap(cell.Kind, given[i])
		}
		at := place{p.Vars[cell.Var].Name, cell.Field}
		s, ok := m.places[at]
		if !ok {
			s = stretch{first: i, low: cell.Index}
		}
		s.high = cell.Index
		m.places[at] = s
	}
	return m
}

// cell tells the number of the cell that a variable is: e is elaborated.
func (m memory) cell(e api.Expr) (int, int) {
	s := m.places[place{e.Name, e.Field}]
	if len(e.L) == 0 {
		return s.first, api.FaultNone
	}
	index, fault := m.number(e.L[0])
	if fault != api.FaultNone {
		return 0, fault
	}
	if index < int64(s.low) || index > int64(s.high) {
		return 0, api.FaultIndex
	}
	return s.first + int(index) - s.low, api.FaultNone
}

// first tells the number of a variable's cell, or that of its field, or pin.
func (m memory) first(name, field string) int { return m.places[place{name, field}].first }
