package names

import (
	"rung/api"
	"rung/types"
)

// Cells: a checked program's cells, in order, and by their names.
type Cells struct {
	L      []api.Cell
	places map[place]Stretch
}

// place: a variable's name, and that of a field, or a pin, or none.
type place struct{ name, field string }

// Stretch: the cells of a place: the first one's number, and the indices of the
// first and the last one: an array has several.
type Stretch struct{ First, Low, High int }

// CellsOf finds them.
func CellsOf(p api.Prog) Cells {
	c := Cells{L: types.Cells(p), places: map[place]Stretch{}}
	for i, cell := range c.L {
		at := place{p.Vars[cell.Var].Name, cell.Field}
		s, ok := c.places[at]
		if !ok {
			s = Stretch{First: i, Low: cell.Index}
		}
		s.High = cell.Index
		c.places[at] = s
	}
	return c
}

// Of tells the cells of a variable, a field, a pin, or what a block keeps.
func (c Cells) Of(name, field string) Stretch { return c.places[place{name, field}] }
