package types

import (
	"math"
	"math/rand"
	"reflect"
	"slices"
	"strconv"
	"strings"
	"testing"

	"rung/api"
)

// ranges of the scalars, by their kinds, written out by hand.
var ranges = map[int][2]int64{
	api.KBool: {0, 1},
	api.KSint: {-128, 127}, api.KInt: {-32768, 32767}, api.KDint: {-2147483648, 2147483647},
	api.KUsint: {0, 255}, api.KUint: {0, 65535}, api.KUdint: {0, 4294967295},
	api.KByte: {0, 255}, api.KWord: {0, 65535}, api.KDword: {0, 4294967295},
	api.KTime: {-2147483648, 2147483647},
}

var kindWords = []string{"", "BOOL", "SINT", "INT", "DINT", "USINT", "UINT", "UDINT", "BYTE", "WORD", "DWORD", "TIME"}

// blocks are the chapter's, with their pins, a pin's kind behind its name;
// outputs stand behind a semicolon.
var blocks = map[string]string{
	"TON":    "IN BOOL PT TIME ; Q BOOL ET TIME",
	"TOF":    "IN BOOL PT TIME ; Q BOOL ET TIME",
	"TP":     "IN BOOL PT TIME ; Q BOOL ET TIME",
	"CTU":    "CU BOOL R BOOL PV INT ; Q BOOL CV INT",
	"CTD":    "CD BOOL LD BOOL PV INT ; Q BOOL CV INT",
	"CTUD":   "CU BOOL CD BOOL R BOOL LD BOOL PV INT ; QU BOOL QD BOOL CV INT",
	"R_TRIG": "CLK BOOL ; Q BOOL",
	"F_TRIG": "CLK BOOL ; Q BOOL",
	"SR":     "S1 BOOL R BOOL ; Q1 BOOL",
	"RS":     "S BOOL R1 BOOL ; Q1 BOOL",
}

// wantPins tells a block's inputs and outputs, and the kinds of all.
func wantPins(block string) (in, out []string, kinds []int) {
	left, right, _ := strings.Cut(blocks[block], ";")
	for i, half := range []string{left, right} {
		words := strings.Fields(half)
		for k := 0; k < len(words); k += 2 {
			kinds = append(kinds, slices.Index(kindWords, words[k+1]))
			if i == 0 {
				in = append(in, words[k])
			} else {
				out = append(out, words[k])
			}
		}
	}
	return in, out, kinds
}

type spot struct{ area, offset int }

// spots tells where each address lies, by its text.
func spots() map[string]spot {
	all := map[string]spot{}
	for i := range 128 {
		for area, name := range map[int]string{api.AreaIX: "%IX", api.AreaQX: "%QX", api.AreaMX: "%MX"} {
			all[name+strconv.Itoa(i/8)+"."+strconv.Itoa(i%8)] = spot{area, i}
		}
	}
	for i := range 64 {
		for area, name := range map[int]string{api.AreaIW: "%IW", api.AreaQW: "%QW", api.AreaMW: "%MW"} {
			all[name+strconv.Itoa(i)] = spot{area, i}
		}
	}
	return all
}

var allSpots = spots()

// model reads the chapter's words once more: it tells all that is wrong, in the
// chapter's order, and what cells there are if nothing is. It is of trees that
// texts are read as.
type model struct {
	p      api.Prog
	faults []api.PlaceError
	cells  []api.Cell
}

func newModel(p api.Prog) *model {
	m := &model{p: p}
	for i, s := range p.Structs {
		m.checkStruct(i, s)
	}
	if len(p.Vars) > 256 {
		m.fault(true, p.Vars[256].At, api.ErrRoom)
	}
	for i, v := range p.Vars {
		m.checkVar(i, v)
	}
	if len(m.faults) > 0 {
		m.cells = nil
	}
	return m
}

func (m *model) fault(is bool, at int, e api.Errno) {
	if is {
		m.faults = append(m.faults, api.PlaceError{At: at, Err: e})
	}
}

func (m *model) checkStruct(i int, s api.Struct) {
	_, block := blocks[s.Name]
	m.fault(block || slices.ContainsFunc(m.p.Structs[:i], func(o api.Struct) bool { return o.Name == s.Name }), s.At, api.ErrTwice)
	m.fault(len(s.Fields) < 1 || len(s.Fields) > 256, s.At, api.ErrRoom)
	for k, f := range s.Fields {
		m.fault(slices.ContainsFunc(s.Fields[:k], func(o api.Var) bool { return o.Name == f.Name }), f.At, api.ErrTwice)
		m.fault(!rightInit(f), f.At, api.ErrInit)
	}
}

func (m *model) checkVar(i int, v api.Var) {
	_, block := blocks[v.Name]
	named := slices.ContainsFunc(m.p.Structs, func(s api.Struct) bool { return s.Name == v.Name })
	m.fault(block || named || slices.ContainsFunc(m.p.Vars[:i], func(o api.Var) bool { return o.Name == v.Name }), v.At, api.ErrTwice)
	cells, ok := m.wantCells(v.T)
	m.fault(!ok, v.At, api.ErrType)
	at := allSpots[v.Addr]
	if v.Addr != "" {
		bits := strings.HasSuffix(v.Addr[:3], "X")
		registers := v.T.Kind == api.KInt || v.T.Kind == api.KUint || v.T.Kind == api.KWord
		m.fault(v.Retain || bits && v.T.Kind != api.KBool || !bits && !registers, v.At, api.ErrPlace)
		m.fault(slices.ContainsFunc(m.p.Vars[:i], func(o api.Var) bool { return o.Addr == v.Addr }), v.At, api.ErrTwice)
	}
	m.fault(!rightInit(v) || len(v.Init) > 0 && strings.HasPrefix(v.Addr, "%I"), v.At, api.ErrInit)
	if len(v.Init) > 0 && len(cells) == 1 {
		cells[0].Init = initNumber(v.Init[0])
	}
	for _, c := range cells {
		c.Var, c.Retain, c.Area, c.Offset = i, v.Retain, at.area, at.offset
		m.cells = append(m.cells, c)
	}
	m.fault(len(m.cells) > 4096, v.At, api.ErrRoom)
}

func (m *model) wantCells(t api.Type) ([]api.Cell, bool) {
	var cells []api.Cell
	if _, ok := ranges[t.Kind]; ok {
		return []api.Cell{{Index: -1, Kind: t.Kind}}, true
	}
	if t.Kind == api.KArray {
		if t.Lo > t.Hi || t.Lo < -2147483648 || t.Hi > 2147483647 || t.Hi-t.Lo+1 > 256 {
			return nil, false
		}
		for i := t.Lo; i <= t.Hi; i++ {
			cells = append(cells, api.Cell{Index: i, Kind: t.Elem})
		}
		return cells, true
	}
	if _, ok := blocks[t.Name]; ok {
		in, out, kinds := wantPins(t.Name)
		for k, name := range append(append(in, out...), "1", "2", "3") {
			cells = append(cells, api.Cell{Field: name, Index: -1, Kind: append(kinds, api.KDint, api.KDint, api.KDint)[k]})
		}
		return cells, true
	}
	for _, s := range m.p.Structs {
		if s.Name == t.Name {
			for _, f := range s.Fields {
				c := api.Cell{Field: f.Name, Index: -1, Kind: f.T.Kind}
				if len(f.Init) > 0 {
					c.Init = initNumber(f.Init[0])
				}
				cells = append(cells, c)
			}
			return cells, true
		}
	}
	return nil, false
}

func initNumber(e api.Expr) int64 {
	if e.Op == api.ExNeg {
		return -e.L[0].N
	}
	return e.N
}

func rightInit(v api.Var) bool {
	if len(v.Init) == 0 {
		return true
	}
	r, scalar := ranges[v.T.Kind]
	e := v.Init[0]
	n := initNumber(e)
	switch {
	case !scalar:
		return false
	case e.Op == api.ExNeg && e.L[0].Kind != 0:
		return false
	case e.Op == api.ExLit && e.Kind != 0:
		return e.Kind == v.T.Kind
	case v.T.Kind == api.KTime:
		return false
	}
	return n >= r[0] && n <= r[1]
}

// wantNumber tells which cell has these names, by the model's list.
func (m *model) wantNumber(name, field string, index int) int {
	for i, c := range m.cells {
		v := m.p.Vars[c.Var]
		if v.Name == name && c.Field == field && (v.T.Kind != api.KArray || c.Index == index) {
			return i
		}
	}
	return -1
}

// maker makes programs up, such as texts are read as; care is how seldom it
// goes wrong: once in that many times.
type maker struct {
	r    *rand.Rand
	care int
	at   int
}

func (k *maker) slip() bool { return k.r.Intn(k.care) == 0 }

func (k *maker) place() int {
	k.at += 1 + k.r.Intn(9)
	return k.at
}

func (k *maker) name(begin string, i int) string {
	if k.slip() {
		return []string{"TON", "CTUD", "RS", "sa", "sb", "va", "vb", "fa", "fb"}[k.r.Intn(9)]
	}
	return begin + string(rune('a'+i%26)) + strings.Repeat("_", i/26)
}

// number tells one that is about as great as the ranges' ends.
func (k *maker) number(kind int) int64 {
	r := ranges[kind]
	if k.slip() {
		return []int64{r[0] - 1, r[1] + 1, -1, 2, 256, 65536, 1 << 32, math.MaxInt64, math.MinInt64}[k.r.Intn(9)]
	}
	return []int64{r[0], r[1], 0, 1, r[0] + k.r.Int63n(r[1]-r[0]+1)}[k.r.Intn(5)]
}

func (k *maker) init(kind int) []api.Expr {
	n := k.number(kind)
	e := api.Expr{Op: api.ExLit, N: n, At: k.place()}
	if kind == api.KTime != k.slip() || k.r.Intn(3) == 0 {
		r := ranges[kind]
		e.Kind, e.N = kind, min(max(n, r[0]), r[1])
		if k.slip() {
			e.Kind = 1 + k.r.Intn(11)
			e.N = ranges[e.Kind][k.r.Intn(2)]
		}
	}
	if e.Kind == 0 && n < 0 || k.slip() {
		e.N = -e.N
		e = api.Expr{Op: api.ExNeg, L: []api.Expr{e}, At: k.place()}
	}
	return []api.Expr{e}
}

func (k *maker) scalar(name string) api.Var {
	v := api.Var{Name: name, T: api.Type{Kind: 1 + k.r.Intn(11)}, At: k.place()}
	if k.r.Intn(2) == 0 {
		v.Init = k.init(v.T.Kind)
	}
	return v
}

func (k *maker) variable(name string, structs int) api.Var {
	v := k.scalar(name)
	v.Retain = k.r.Intn(4) == 0
	switch k.r.Intn(8) {
	case 0:
		low := []int{-2147483648, 2147483647, 0, -3, 1}[k.r.Intn(5)]
		v.T = api.Type{Kind: api.KArray, Lo: low, Hi: low + k.r.Intn(5), Elem: 1 + k.r.Intn(11)}
		if k.r.Intn(3) == 0 {
			v.T.Hi = low + 255
		}
		if v.T.Hi > 2147483647 && !k.slip() {
			v.T.Lo, v.T.Hi = 2147483647-k.r.Intn(256), 2147483647
		}
		if k.slip() {
			v.T.Lo, v.T.Hi = low, low+[]int{-1, 256, 1 << 40}[k.r.Intn(3)]
		}
	case 1, 2:
		v.T = api.Type{Name: []string{"TON", "TOF", "TP", "CTU", "CTD", "CTUD", "R_TRIG", "F_TRIG", "SR", "RS"}[k.r.Intn(10)]}
	case 3, 4:
		v.T = api.Type{Name: k.name("s", k.r.Intn(structs+1))}
	case 5:
		if !k.slip() {
			v.Retain = false
		}
		v.T.Kind = []int{api.KInt, api.KUint, api.KWord}[k.r.Intn(3)]
		v.Addr = []string{"%IW", "%QW", "%MW"}[k.r.Intn(3)] + strconv.Itoa(k.r.Intn(64))
		if k.r.Intn(2) == 0 {
			v.T.Kind = api.KBool
			v.Addr = []string{"%IX", "%QX", "%MX"}[k.r.Intn(3)] + strconv.Itoa(k.r.Intn(16)) + "." + strconv.Itoa(k.r.Intn(8))
		}
		if k.slip() {
			v.Addr = []string{"%IW0", "%QW0", "%MX0.0", "%QX15.7"}[k.r.Intn(4)]
		}
		v.Init = nil
		if v.Addr[1] != 'I' && k.r.Intn(2) == 0 || k.slip() {
			v.Init = k.init(v.T.Kind)
		}
		return v
	}
	if v.T.Kind == 0 || v.T.Kind == api.KArray {
		v.Init = nil
		if k.slip() {
			v.Init = k.init(api.KInt)
		}
	}
	if k.slip() {
		v.Addr = "%QW1"
	}
	return v
}

func (k *maker) program() api.Prog {
	p := api.Prog{Name: "p"}
	structs := k.r.Intn(4)
	for i := range structs {
		s := api.Struct{Name: k.name("s", i), At: k.place()}
		for f := range 1 + k.r.Intn(6) {
			s.Fields = append(s.Fields, k.scalar(k.name("f", f)))
		}
		if k.slip() {
			s.Fields = nil
		}
		p.Structs = append(p.Structs, s)
	}
	most := []int{3, 12, 12, 80, 260}[k.r.Intn(5)]
	for i := range k.r.Intn(most) {
		p.Vars = append(p.Vars, k.variable(k.name("v", i), structs))
	}
	return p
}

// P15.1, P15.2, P15.3, P15.4: programs that are made up, held against the model.
func TestMadeUp(t *testing.T) {
	r := rand.New(rand.NewSource(15))
	told := map[api.Errno]int{}
	for n := range 6000 {
		k := &maker{r: r, care: []int{4, 30, 300, 3000}[n%4]}
		p := k.program()
		m := newModel(p)
		e := Check(p)
		cells := Cells(p)
		if len(m.faults) > 0 {
			told[m.faults[0].Err]++
			if !wrongAt(e, m.faults[0].At, m.faults[0].Err) || len(cells) != 0 {
				t.Fatalf("P15.1: %+v: %v, %d cells; want %v", p, e, len(cells), m.faults[0])
			}
		} else {
			told[api.OK]++
			if e != nil || !slices.Equal(cells, m.cells) {
				t.Fatalf("P15.2: %+v: %v, %+v; want %+v", p, e, cells, m.cells)
			}
		}
		findAll(t, r, m)
	}
	for _, e := range []api.Errno{api.OK, api.ErrTwice, api.ErrType, api.ErrPlace, api.ErrInit, api.ErrRoom} {
		if told[e] < 25 {
			t.Errorf("only %d programs with %v", told[e], e)
		}
	}
}

// findAll asks for some cells by their names, and for what there isn't.
func findAll(t *testing.T, r *rand.Rand, m *model) {
	t.Helper()
	ask := func(name, field string, index int) {
		want := m.wantNumber(name, field, index)
		if got := Find(m.p, name, field, index); got != want {
			t.Fatalf("P15.3: %+v: Find(%q, %q, %d): %d; want %d", m.p, name, field, index, got, want)
		}
	}
	for range min(len(m.cells), 6) {
		c := m.cells[r.Intn(len(m.cells))]
		name := m.p.Vars[c.Var].Name
		ask(name, c.Field, c.Index)
		ask(name, c.Field, c.Index+1)
		ask(name, c.Field, -1)
		ask(name, c.Field+"_", c.Index)
		ask(name, []string{"", "Q", "fa", "1", "4"}[r.Intn(5)], r.Intn(5)-1)
	}
	for _, v := range m.p.Vars[:min(len(m.p.Vars), 4)] {
		ask(v.Name, "", v.T.Lo)
		ask(v.Name+"_", "", v.T.Lo)
	}
	ask("no", "", 0)
}

// scribbled tells a tree such as no text is read as: any numbers and names in
// any field.
func scribbled(r *rand.Rand) api.Prog {
	number := func() int {
		return []int{0, 0, 1, 2, 3, 5, 9, 11, 12, 13, 14, 15, 99, -1, math.MinInt, math.MaxInt}[r.Intn(16)]
	}
	word := func() string {
		return []string{"", "", "a", "b", "c", "d", "s", "TON", "1", "\xff", "IF", strings.Repeat("n", 99)}[r.Intn(12)]
	}
	var expr func(depth int) api.Expr
	expr = func(depth int) api.Expr {
		e := api.Expr{Op: []int{1, 1, 1, 3, 3, 2, 4, 8, 19, 0, -1}[r.Intn(11)], N: int64(number()), Name: "", At: number()}
		if r.Intn(3) == 0 {
			e.Kind = number()
		}
		if r.Intn(4) == 0 {
			e.Name, e.Field = word(), word()
		}
		for range []int{0, 1, 1, 1, 2}[r.Intn(5)] {
			if depth > 0 {
				e.L = append(e.L, expr(depth-1))
			}
		}
		return e
	}
	variable := func() api.Var {
		v := api.Var{Name: word(), T: api.Type{Kind: number()}, Retain: r.Intn(5) == 0, At: number()}
		if r.Intn(2) == 0 {
			v.T = api.Type{Kind: 3, Lo: -1, Hi: 1, Elem: 3}
		}
		for range []int{0, 0, 0, 1, 2}[r.Intn(5)] {
			switch r.Intn(5) {
			case 0:
				v.T.Kind = number()
			case 1:
				v.T.Lo = number()
			case 2:
				v.T.Hi = number()
			case 3:
				v.T.Elem = number()
			case 4:
				v.T.Name = word()
			}
		}
		if r.Intn(5) == 0 {
			v.Addr = []string{"%IX0.0", "%QW1", "%QX0.8", "%", "x", "\x00", "%MW064", " "}[r.Intn(8)]
		}
		for range []int{0, 0, 0, 1, 1, 2}[r.Intn(6)] {
			v.Init = append(v.Init, expr(2))
		}
		return v
	}
	p := api.Prog{Name: word(), Il: r.Intn(2) == 0}
	for range r.Intn(3) {
		s := api.Struct{Name: word(), At: number()}
		for range r.Intn(4) {
			s.Fields = append(s.Fields, variable())
		}
		p.Structs = append(p.Structs, s)
	}
	for range r.Intn(4) {
		p.Vars = append(p.Vars, variable())
	}
	return p
}

// P15.1 to P15.4 of any trees: they are refused, or have cells such as the
// chapter says: scalars, with numbers of their kinds, each found by its names,
// once.
func TestAnyTrees(t *testing.T) {
	r := rand.New(rand.NewSource(51))
	taken := 0
	for range 60000 {
		p := scribbled(r)
		e, cells := Check(p), Cells(p)
		if e != nil {
			x, ok := e.(*api.PlaceError)
			if !ok || !slices.Contains([]api.Errno{api.ErrTwice, api.ErrType, api.ErrPlace, api.ErrInit, api.ErrRoom}, x.Err) || len(cells) != 0 {
				t.Fatalf("P15.1: %+v: %v, %v", p, e, cells)
			}
		} else if len(cells) > 0 {
			taken++
		}
		names := map[string]int{}
		for i, c := range cells {
			reach, ok := ranges[c.Kind]
			if !ok || c.Init < reach[0] || c.Init > reach[1] || c.Retain != p.Vars[c.Var].Retain {
				t.Fatalf("P15.2: %+v: %+v", p, c)
			}
			key := strconv.Itoa(c.Var) + " " + strconv.Itoa(c.Index) + " " + c.Field
			if _, twice := names[key]; twice || Find(p, p.Vars[c.Var].Name, c.Field, c.Index) != i {
				t.Fatalf("P15.4: %+v: %+v isn't found, or twice", p, c)
			}
			names[key] = i
		}
		for _, v := range p.Vars {
			if ty, ok := TypeOf(p, v.Name); !ok || e == nil && ty != v.T {
				t.Fatalf("P15.3: %+v: TypeOf(%q): %v, %v", p, v.Name, ty, ok)
			}
			for _, field := range []string{"", "a", "1", "Q", "\xff"} {
				if kind, ok := FieldOf(p, v.T, field); ok != (ranges[kind] != [2]int64{}) {
					t.Fatalf("P15.3: %+v: FieldOf(%q): %v, %v", p, field, kind, ok)
				}
				if at := Find(p, v.Name, field, v.T.Lo); at < -1 || at >= len(cells) {
					t.Fatalf("P15.3: %+v: Find(%q, %q): %d", p, v.Name, field, at)
				}
			}
		}
	}
	if taken < 1000 {
		t.Errorf("only %d trees were taken", taken)
	}
}

// DOC.md, 3 and 8: what is handed in stays, spare room and all; the same again
// is told, and what was told before is nobody's any more.
func TestMemory(t *testing.T) {
	r := rand.New(rand.NewSource(5))
	for range 300 {
		seed := r.Int63()
		made := func() api.Prog {
			p := (&maker{r: rand.New(rand.NewSource(seed)), care: 1000}).program()
			p.Vars = append(p.Vars, api.Var{Name: "spare"})[:len(p.Vars)]
			p.Structs = append(p.Structs, api.Struct{Name: "spare"})[:len(p.Structs)]
			return p
		}
		p, same := made(), made()
		e, cells := Check(p), Cells(p)
		want := slices.Clone(cells)
		for i := range cells {
			cells[i] = api.Cell{Var: -1, Kind: -1}
		}
		for _, v := range p.Vars {
			Find(p, v.Name, "Q", 0)
			TypeOf(p, v.Name)
			FieldOf(p, v.T, "fa")
		}
		if !slices.Equal(Cells(p), want) || !reflect.DeepEqual(Check(p), e) {
			t.Fatalf("DOC.md 3: another answer: %+v", p)
		}
		p.Vars, same.Vars = p.Vars[:len(p.Vars)+1], same.Vars[:len(same.Vars)+1]
		p.Structs, same.Structs = p.Structs[:len(p.Structs)+1], same.Structs[:len(same.Structs)+1]
		if !reflect.DeepEqual(p, same) {
			t.Fatalf("DOC.md 3: changed: %+v; it was %+v", p, same)
		}
	}
	for block := range blocks {
		in, out := Pins(block)
		wantIn, wantOut := slices.Clone(in), slices.Clone(out)
		for _, l := range [][]string{in, out} {
			l = append(l, "more")
			for i := range l {
				l[i] = "x"
			}
		}
		if again, behind := Pins(block); !slices.Equal(again, wantIn) || !slices.Equal(behind, wantOut) {
			t.Errorf("DOC.md 3: %s: %v, %v", block, again, behind)
		}
	}
}
