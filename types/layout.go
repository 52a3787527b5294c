package types

import (
	"slices"
	"strconv"

	"rung/addr"
	"rung/api"
	"rung/num"
)

const (
	registerBits = 16
	// keeps is how many cells a block has beside its pins.
	keeps = 3
)

// layout is what declarations come to: names and addresses that are taken, each
// with a number, and where each variable's cells begin.
type layout struct {
	declared []api.Struct
	structs  map[string]int // by name: which of the declared ones
	vars     map[string]int // by name: which of the variables
	places   map[string]int // by address: the variable that lies there
	first    []int          // of each variable: its first cell
	size     int            // how many cells there are
}

// lay finds a program's layout, or what is wrong first in its declarations.
func lay(p api.Prog) (*layout, error) {
	l := &layout{
		declared: p.Structs,
		structs:  map[string]int{},
		vars:     map[string]int{},
		places:   map[string]int{},
	}
	for number, s := range p.Structs {
		if err := l.addStruct(number, s); err != nil {
			return nil, err
		}
	}
	if len(p.Vars) > api.MaxVars {
		return nil, wrong(p.Vars[api.MaxVars].At, api.ErrRoom)
	}
	for number, v := range p.Vars {
		if e := l.addVar(number, v); e != api.OK {
			return nil, wrong(v.At, e)
		}
	}
	return l, nil
}

func wrong(at int, e api.Errno) error { return &api.PlaceError{At: at, Err: e} }

// taken tells whether a name is a block's, or that of a struct or a variable
// that was added.
func (l *layout) taken(name string) bool {
	_, isStruct := l.structs[name]
	_, isVar := l.vars[name]
	return isStruct || isVar || Block(name)
}

func (l *layout) addStruct(number int, s api.Struct) error {
	if l.taken(s.Name) {
		return wrong(s.At, api.ErrTwice)
	}
	if len(s.Fields) == 0 || len(s.Fields) > api.MaxVars {
		return wrong(s.At, api.ErrRoom)
	}
	names := map[string]int{}
	for i, f := range s.Fields {
		if _, ok := names[f.Name]; ok {
			return wrong(f.At, api.ErrTwice)
		}
		names[f.Name] = i
		if e := checkField(f); e != api.OK {
			return wrong(f.At, e)
		}
	}
	l.structs[s.Name] = number
	return nil
}

// checkField asks more than that the first value be right: trees may tell what
// no text is read as, and a field is a scalar that lies with its variable.
func checkField(f api.Var) api.Errno {
	if !isScalar(f.T) {
		return api.ErrType
	}
	if f.Addr != "" {
		return api.ErrPlace
	}
	if _, ok := firstValue(f); !ok {
		return api.ErrInit
	}
	return api.OK
}

func (l *layout) addVar(number int, v api.Var) api.Errno {
	if l.taken(v.Name) {
		return api.ErrTwice
	}
	size := l.sizeOf(v.T)
	if size == 0 {
		return api.ErrType
	}
	area, _, _ := addr.Parse(v.Addr) // without an address: AreaNone
	if v.Addr != "" && !mayLie(v, area) {
		return api.ErrPlace
	}
	if _, ok := l.places[v.Addr]; ok {
		return api.ErrTwice
	}
	if _, ok := firstValue(v); !ok || len(v.Init) > 0 && isInput(area) {
		return api.ErrInit
	}
	if l.size+size > api.MaxCells {
		return api.ErrRoom
	}
	l.vars[v.Name] = number
	if v.Addr != "" {
		l.places[v.Addr] = number
	}
	l.first = append(l.first, l.size)
	l.size += size
	return api.OK
}

// mayLie tells whether a variable may have an address in that area.
func mayLie(v api.Var, area int) bool {
	if v.Retain || area == api.AreaNone {
		return false
	}
	if addr.Bit(area) {
		return v.T.Kind == api.KBool
	}
	return num.Width(v.T.Kind) == registerBits
}

func isInput(area int) bool { return area == api.AreaIX || area == api.AreaIW }

// sizeOf tells how many cells a variable of that type has; 0, if there is no
// such type.
func (l *layout) sizeOf(t api.Type) int {
	switch {
	case isScalar(t):
		return 1
	case isArray(t):
		return t.Hi - t.Lo + 1
	case isBlock(t):
		in, out := pinsOf(t.Name)
		return in.count() + out.count() + keeps
	}
	return len(l.fieldsOf(t))
}

// fieldsOf tells a struct's fields; none, if t is no struct.
func (l *layout) fieldsOf(t api.Type) []api.Var {
	number, ok := l.structs[t.Name]
	if !ok || !mayBeStruct(t) {
		return nil
	}
	return l.declared[number].Fields
}

// cellsOf tells the cells of a variable that was added.
func (l *layout) cellsOf(number int, v api.Var) []api.Cell {
	cells := make([]api.Cell, 0, l.sizeOf(v.T))
	switch {
	case isScalar(v.T):
		cells = append(cells, scalarCell(v, ""))
	case isArray(v.T):
		for i := range v.T.Hi - v.T.Lo + 1 {
			cells = append(cells, api.Cell{Index: v.T.Lo + i, Kind: v.T.Elem})
		}
	case isBlock(v.T):
		cells = appendBlock(cells, v.T.Name)
	default:
		for _, f := range l.fieldsOf(v.T) {
			cells = append(cells, scalarCell(f, f.Name))
		}
	}
	area, offset, _ := addr.Parse(v.Addr) // without an address: AreaNone, 0
	for i := range cells {
		cells[i].Var, cells[i].Retain = number, v.Retain
		cells[i].Area, cells[i].Offset = area, offset
	}
	return cells
}

func scalarCell(v api.Var, field string) api.Cell {
	n, _ := firstValue(v)
	return api.Cell{Field: field, Index: -1, Kind: v.T.Kind, Init: n}
}

func appendBlock(cells []api.Cell, block string) []api.Cell {
	in, out := pinsOf(block)
	for _, x := range slices.Concat(in[:in.count()], out[:out.count()]) {
		cells = append(cells, api.Cell{Field: x.name, Index: -1, Kind: x.kind})
	}
	for i := range keeps {
		cells = append(cells, api.Cell{Field: strconv.Itoa(i + 1), Index: -1, Kind: api.KDint})
	}
	return cells
}

// firstValue tells the number that a variable, or a field, begins with: 0, if
// it has no Init; false, if what it has isn't one for it.
func firstValue(v api.Var) (int64, bool) {
	if len(v.Init) == 0 {
		return 0, true
	}
	kind, e := v.T.Kind, v.Init[0]
	if len(v.Init) > 1 || !num.Scalar(kind) {
		return 0, false
	}
	if e.Op == api.ExLit && e.Kind != 0 {
		return num.Wrap(kind, e.N), e.Kind == kind
	}
	n, ok := untyped(e)
	least, greatest := num.Range(kind)
	// A TIME is told by literals of its own alone.
	return n, ok && kind != api.KTime && least <= n && n <= greatest
}

// untyped tells the number that an untyped literal, or the opposite of one, is;
// false, if e is neither.
func untyped(e api.Expr) (int64, bool) {
	if e.Op == api.ExNeg && len(e.L) == 1 {
		// The least number's opposite wraps round to itself: it is of no
		// kind's range as well.
		return -e.L[0].N, plain(e.L[0])
	}
	return e.N, plain(e)
}

func plain(e api.Expr) bool { return e.Op == api.ExLit && e.Kind == 0 }
