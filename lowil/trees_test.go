package lowil_test

import (
	"fmt"
	"math/rand"
	"reflect"
	"slices"
	"strings"
	"sync"
	"testing"

	"rung/api"
	"rung/check"
	"rung/code"
	"rung/il"
	"rung/lowil"
)

// arena holds all expressions of a program in one list: behind each list's end
// lies what is another's.
type arena struct {
	all  []api.Expr
	args []api.Arg
	code []api.Inst
}

func (a *arena) list(l []api.Expr) []api.Expr {
	begin := len(a.all)
	a.all = append(a.all, l...)
	for i, e := range l {
		a.all[begin+i].L = a.list(e.L)
	}
	return a.all[begin : begin+len(l)]
}

// laid tells a program whose lists lie in a new arena.
func laid(p api.Prog) (api.Prog, *arena) {
	a := &arena{make([]api.Expr, 0, 5000), make([]api.Arg, 0, 500), make([]api.Inst, 0, 500)}
	for _, in := range p.Code {
		in.E = a.list(in.E)
		begin := len(a.args)
		for _, x := range in.Args {
			x.E.L = a.list(x.E.L)
			a.args = append(a.args, x)
		}
		in.Args = a.args[begin:]
		a.code = append(a.code, in)
	}
	a.all, a.args, a.code = a.all[:cap(a.all)], a.args[:cap(a.args)], a.code[:cap(a.code)]
	q := p
	q.Code = a.code[:len(p.Code)]
	q.Vars, q.Structs = slices.Grow(slices.Clone(p.Vars), 9), slices.Grow(slices.Clone(p.Structs), 9)
	return q, a
}

// DOC.md 3, 8: what is handed in stays, spare room and all; what is told is new,
// and the same each time, many at a time, too.
func TestMemory(t *testing.T) {
	w := &walker{Rand: rand.New(rand.NewSource(3))}
	for range 150 {
		text := w.text(30)
		want, q, err := lowil.Compile(text)
		if err != nil {
			continue
		}
		told := code.Text(want)
		p, a := laid(q)
		all, args, list := slices.Clone(a.all), slices.Clone(a.args), slices.Clone(a.code)
		vars, structs := slices.Clone(p.Vars[:cap(p.Vars)]), slices.Clone(p.Structs[:cap(p.Structs)])
		c, err := lowil.Lower(p)
		if err != nil || !reflect.DeepEqual(c, want) {
			t.Fatalf("DOC.md 8: %s: %v", text, err)
		}
		for _, c := range []api.Code{c, want} {
			for i := range c.L[:cap(c.L)] {
				c.L[:cap(c.L)][i] = api.Ins{Op: -1}
			}
			clear(c.Kinds[:cap(c.Kinds)])
		}
		for i := range q.Code {
			q.Code[i].Op = "scrambled"
		}
		if !reflect.DeepEqual(a.all, all) || !reflect.DeepEqual(a.args, args) || !reflect.DeepEqual(a.code, list) ||
			!reflect.DeepEqual(p.Vars[:cap(p.Vars)], vars) || !reflect.DeepEqual(p.Structs[:cap(p.Structs)], structs) {
			t.Fatalf("DOC.md 3: %s was changed", text)
		}
		var done sync.WaitGroup
		for range 4 {
			done.Go(func() {
				c, _, err := lowil.Compile(text)
				d, err2 := lowil.Lower(p)
				if err != nil || err2 != nil || code.Text(c) != told || !reflect.DeepEqual(c, d) {
					t.Errorf("DOC.md 8: %s: %v, %v", text, err, err2)
				}
			})
		}
		done.Wait()
	}
}

// DOC.md 2: empty lists are as nil ones.
func TestEmpty(t *testing.T) {
	none := []api.Expr{}
	x := api.Expr{Op: api.ExVar, Name: "x", L: none}
	empty := api.Prog{Il: true, Structs: []api.Struct{}, Vars: []api.Var{}, Body: []api.Stmt{}, Code: []api.Inst{}}
	full := empty
	full.Vars = []api.Var{{Name: "x", T: api.Type{Kind: api.KInt}, Init: none}, {Name: "c", T: api.Type{Kind: api.KFb, Name: "CTU"}, Init: none}}
	full.Code = []api.Inst{
		{Label: "l", E: none, Args: []api.Arg{}},
		{Op: "LD", E: []api.Expr{x}, Args: []api.Arg{}},
		{Op: "ADD(", E: none, Args: []api.Arg{}}, {Op: "LD", E: []api.Expr{x}}, {Op: ")", E: none, Args: []api.Arg{}},
		{Op: "ST", E: []api.Expr{x}},
		{Op: "CAL", E: []api.Expr{{Op: api.ExVar, Name: "c", L: none}}, Args: []api.Arg{}},
		{Op: "RET", E: none, Args: []api.Arg{}},
	}
	for _, p := range []api.Prog{{Il: true}, empty, full} {
		c, err := lowil.Lower(p)
		if err != nil {
			t.Fatalf("DOC.md 2: %v", err)
		}
		got := alike(t, holds(t, c, p), p, []int64{3}, 0, 9)
		if len(p.Vars) > 0 && (got.cells[0] != 6 || got.cells[4] != 1 || got.steps != 7) {
			t.Errorf("DOC.md 2: %v", got)
		}
	}
}

// DOC.md 9: what a tree has that its instruction doesn't name says nothing, be it
// without an end; literals, labels and names that no text is read as.
func TestOddTrees(t *testing.T) {
	knot := []api.Expr{{Op: api.ExNeg}}
	knot[0].L = knot
	endless := []api.Stmt{{Op: api.StRepeat, E: knot}}
	endless[0].Body = endless
	number := func(kind int, n int64) api.Expr {
		return api.Expr{Op: api.ExLit, Kind: kind, N: n, Name: "x", Field: "y", L: knot, At: -3}
	}
	minus := func(e api.Expr) api.Expr { return api.Expr{Op: api.ExNeg, Kind: 77, N: 9, L: []api.Expr{e}} }
	name := func(s, field string, index ...api.Expr) api.Expr {
		return api.Expr{Op: api.ExVar, Name: s, Field: field, L: index, Kind: -1, N: 6}
	}
	p := api.Prog{
		Il: true, Name: "\n", Body: endless,
		Structs: []api.Struct{{Name: "\xff", Fields: []api.Var{{Name: "1", T: api.Type{Kind: api.KInt}}, {Name: "\x00", T: api.Type{Kind: api.KTime}}}}},
		Vars: []api.Var{
			{Name: "LD", T: api.Type{Kind: api.KInt}}, {Name: "a", T: api.Type{Name: "\xff"}}, {Name: "a.1", T: api.Type{Kind: api.KInt}},
			{Name: "a[1]", T: api.Type{Kind: api.KArray, Elem: api.KInt, Lo: 1, Hi: 2}}, {Name: ";", T: api.Type{Kind: api.KFb, Name: "SR"}},
		},
	}
	of := func(op string, e ...api.Expr) api.Inst { return api.Inst{Op: op, E: e, At: -1} }
	p.Code = []api.Inst{
		of("LD", minus(number(api.KInt, 7))), of("SUB(", minus(number(api.KInt, -2))), of("MUL", minus(number(0, 3))), of(")"), of("ST", name("LD", "")), // -7 - 2 * -3
		{Label: "JMP", Op: "LD", E: []api.Expr{minus(number(api.KTime, 8))}}, of("ST", name("a", "\x00")),
		of("JMP", api.Expr{Op: api.ExVar, Name: ": ", N: 4, Kind: 2}),
		of("LD", number(0, 1)), of("MOD", number(0, 0)),
		{Label: "\n"}, {Label: ": "},
		of("LD", number(api.KInt, 4)), of("ST", name("a", "1")), of("ADD", number(0, -9)), of("ST", name("a.1", "")), of("ST", name("a[1]", "", minus(number(0, -2)))),
		{Op: "CAL", E: []api.Expr{{Op: api.ExVar, Name: ";", Kind: 3}}, Args: []api.Arg{{Name: "S1", E: number(0, 1), At: 9}, {Name: "R", E: number(api.KBool, 0)}}},
	}
	c, err := lowil.Lower(p)
	if err != nil {
		t.Fatalf("DOC.md 9: %v", err)
	}
	want := answer{[]int64{-1, 4, -8, -5, 0, -5, 1, 0, 1, 0, 0, 0}, 0, 14}
	if got := alike(t, holds(t, c, p), p, nil, 0, 99); !got.is(want) {
		t.Errorf("DOC.md 9: %v; want %v", got, want)
	}
	for _, e := range []api.Expr{knot[0], name("LD", "", knot...), name("a[1]", "", knot...), minus(minus(number(0, 1)))} {
		p.Code = []api.Inst{of("LD", e)}
		c, err := lowil.Lower(p)
		if err == nil {
			t.Fatalf("DOC.md 1: %+v is taken", p.Code[0].Op)
		}
		refuses(t, "odd", c, api.Prog{}, err, *check.Check(p).(*api.PlaceError))
	}
}

// DOC.md 1, 9: indices as deep as texts have them, and far deeper: then all that
// is asked for is an answer.
func TestDeep(t *testing.T) {
	p, err := il.Parse(source("x : INT; a : ARRAY[0..1] OF INT; c : CTU;", ""))
	if err != nil {
		t.Fatal(err)
	}
	x := api.Expr{Op: api.ExVar, Name: "x"}
	ways := map[string]func(api.Expr) []api.Expr{
		"element": func(e api.Expr) []api.Expr { return []api.Expr{e} },
		"left":    func(e api.Expr) []api.Expr { return []api.Expr{{Op: api.ExMul, L: []api.Expr{e, x}}} },
		"right":   func(e api.Expr) []api.Expr { return []api.Expr{{Op: api.ExMul, L: []api.Expr{x, e}}} },
		"limit": func(e api.Expr) []api.Expr {
			return []api.Expr{{Op: api.ExCall, Name: "LIMIT", L: []api.Expr{x, e, x}}}
		},
		"minus": func(e api.Expr) []api.Expr { return []api.Expr{{Op: api.ExNeg, L: []api.Expr{e}}} },
	}
	for name, way := range ways {
		e, refused := x, 0
		for depth := range 20001 {
			if depth <= 2*api.MaxDepth || depth == 300 || depth%5000 == 0 {
				at := api.Expr{Op: api.ExVar, Name: "a", L: []api.Expr{e}}
				p.Code = []api.Inst{{Op: "LD", E: []api.Expr{at}}, {Op: "ADD(", E: []api.Expr{at}}, {Op: "SUB", E: []api.Expr{at}}, {Op: ")"}, {Op: "ST", E: []api.Expr{at}},
					{Op: "CAL", E: []api.Expr{{Op: api.ExVar, Name: "c"}}, Args: []api.Arg{{Name: "PV", E: at}}}}
				c, err := lowil.Lower(p)
				switch wrong := check.Check(p); {
				case wrong != nil:
					refuses(t, name, c, api.Prog{}, err, *wrong.(*api.PlaceError))
				case err == nil:
					v := holds(t, c, p)
					for _, cells := range [][]int64{{0, 1, 0}, {1, 0, 1}, {2, 1, 1}} {
						alike(t, v, p, cells, 0, 99)
					}
				case depth <= 2*api.MaxDepth:
					t.Fatalf("P23.1: %s, %d deep: %v", name, depth, err)
				default:
					refuses(t, name, c, api.Prog{}, err, api.PlaceError{Err: api.ErrRoom})
					refused++
				}
			}
			if name == "element" {
				e = api.Expr{Op: api.ExVar, Name: "a", L: way(e)}
			} else {
				e = way(e)[0]
			}
		}
		t.Logf("%s: %d times no room", name, refused)
	}
}

// anyOperand makes one such as no text is read as: any numbers and names in any
// field.
func (w *walker) anyOperand(depth int) api.Expr {
	e := api.Expr{Op: []int{api.ExLit, api.ExVar, api.ExVar, w.Intn(21)}[w.Intn(4)], N: w.Int63n(5) - 2, At: w.Intn(99)}
	if w.in(4) {
		e.Kind = w.Intn(14) - 1
	}
	if e.Op == api.ExVar || w.in(9) {
		e.Name = w.of("BOOL1", "BOOL1", "INT1", "INT1", "DINT1", "INT2", "all", "TON4", "i0", "l", "")
	}
	if w.in(9) {
		e.Field = w.of("INT3", "BOOL3", "Q", "3")
	}
	if depth > 0 && w.in(4) {
		e.L = []api.Expr{w.anyOperand(depth - 1)}
	}
	return e
}

// anyInst makes an instruction of any parts, that are most often those that its
// operator asks for.
func (w *walker) anyInst() api.Inst {
	ops := append(il.Ops(), "LD", "LD", "LD", "LD", "ST", "ST", "S", "", "LDN(", "NOTN", "JMPN", "N", "(", "CN")
	in := api.Inst{Op: w.of(ops...), At: w.Intn(99)}
	if in.Op == "" || w.in(12) {
		in.Label = w.of("l", "k", "")
	}
	many := 1
	if in.Op == "" || in.Op == "NOT" || in.Op == ")" || strings.HasPrefix(in.Op, "RET") {
		many = 0
	}
	if w.in(12) {
		many = w.Intn(3)
	}
	for range many {
		in.E = append(in.E, w.anyOperand(1))
	}
	switch {
	case many == 0:
	case strings.HasPrefix(in.Op, "JMP"):
		in.E[0].Op, in.E[0].Name = api.ExVar, w.of("l", "l", "k")
	case strings.HasPrefix(in.Op, "CAL"):
		in.E[0] = api.Expr{Op: api.ExVar, Name: "TON4"}
		for _, pin := range []string{"PT", "IN", "Q"}[w.Intn(3):] {
			in.Args = append(in.Args, api.Arg{Name: pin, E: w.anyOperand(1)})
		}
	}
	return in
}

// DOC.md 1, 9: any instructions: of what check takes the code is as ilsem tells it.
func TestAnyTrees(t *testing.T) {
	p, err := il.Parse(declared() + "END_PROGRAM")
	if err != nil {
		t.Fatal(err)
	}
	w := &walker{Rand: rand.New(rand.NewSource(239))}
	taken := 0
	for range 20000 {
		p.Code = nil
		for i := range 1 + w.Intn(5) {
			in := w.anyInst()
			if i == 0 && !w.in(4) {
				in = api.Inst{Op: "LD", E: []api.Expr{{Op: api.ExVar, Name: w.of("BOOL1", "INT1", "DINT1")}}}
			}
			p.Code = append(p.Code, in)
		}
		c, err := lowil.Lower(p)
		if wrong := check.Check(p); wrong != nil {
			refuses(t, "any tree", c, api.Prog{}, err, *wrong.(*api.PlaceError))
			continue
		}
		if err != nil {
			t.Fatalf("P23.1: %+v: %v", p.Code, err)
		}
		taken++
		alike(t, holds(t, c, p), p, w.cells(p), 5, 40)
	}
	t.Log(taken, "were taken")
	if taken < 1500 {
		t.Errorf("only %d programs were taken", taken)
	}
}

// P23.2: as many cells as there may be, all of them reached.
func TestManyCells(t *testing.T) {
	vars := ""
	for i := range 16 {
		vars += fmt.Sprintf("a%d : ARRAY[-100..155] OF DINT; ", i)
	}
	v, p := built(t, source(vars, "LD a15[155]|ADD a7[155]|ADD a8[a0[0] - 200]|ST a15[a0[1] + 54]|LD -1|ST a0[-100]|ST a0[a0[2] - 203]"))
	cells := make([]int64, api.MaxCells+1)
	for i := range cells {
		cells[i] = int64(i)
	}
	want := slices.Clone(cells[:api.MaxCells])
	want[4095], want[0] = 4095+2047+2048, -1
	if got := alike(t, v, p, cells, 0, 9); !got.is(answer{want, api.FaultIndex, 7}) {
		t.Errorf("P23.2: %v", got)
	}
}

// P23.2: scans of many steps: the code has no more instructions for them than a
// scan may do.
func TestManySteps(t *testing.T) {
	for _, lines := range []string{
		"a: JMP a",
		"a:|b: LD i|ADD 1|ST i|JMP b",
		"a: LD i|ADD 1|ST i|LT 60000|JMPC a",
		"a: LD i|EQ 0|JMPCN b|LD j|ADD( k|MUL 3|)|ST x[k]|GT 0|S f|CALCN c(CU := f, R := f)|JMP a|b: RET",
		"a: LD f|NOT|STN f|JMPC a|JMP a",
		"a: LD f|CALC c(CU := TRUE, PV := 3)|CALCN c(CU := FALSE)|NOT|ST f|JMP a",
	} {
		v, p := built(t, source("i : DINT; j : DINT; k : DINT; x : ARRAY[0..1] OF DINT; f : BOOL; c : CTU;", lines))
		got := alike(t, v, p, []int64{0, 0, 1}, 0, 300000)
		if got.steps < 290000 {
			t.Errorf("P23.2: %s: but %d steps", lines, got.steps)
		}
	}
}
