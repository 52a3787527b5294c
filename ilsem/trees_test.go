package ilsem_test

import (
	"fmt"
	"math/rand"
	"reflect"
	"slices"
	"strings"
	"sync"
	"testing"

	"rung/api"
	"rung/check"
	"rung/il"
	"rung/ilsem"
)

// P19.2: the same scan, many at a time.
func TestSame(t *testing.T) {
	p := program(t, "i : INT; s : DINT; a : ARRAY[0..4] OF INT; t1 : TP; c : CTU;",
		"LD i|EQ 0|CALC t1(IN := TRUE, PT := T#5ms)|on: LD i|MOD 2|EQ 0|CALC c(CU := TRUE, PV := 9)|CALCN c(CU := FALSE)|LD a[(i + 1) MOD 5]|ADD( c.CV|MUL 3|)|ST a[i MOD 5]|LD i|ADD 1|ST i|LD s|ADD 7|ST s|LD i|LE 40|JMPC on|LD c.Q|RETCN|LD INT#0|ST i")
	cells := []int64{0, 5, 1, 2, 3, 4, 5}
	want, fault, steps := ilsem.Scan(p, cells, 9, 9999)
	if fault != 0 || steps < 100 || want[0] != 0 || want[1] != 5+41*7 {
		t.Fatalf("P19.2: %v, %d, %d", want, fault, steps)
	}
	want2, _, _ := ilsem.Scan(p, want, 14, 9999)
	var all sync.WaitGroup
	for range 8 {
		all.Go(func() {
			for range 20 {
				first, f, n := ilsem.Scan(p, cells, 9, 9999)
				second, _, _ := ilsem.Scan(p, first, 14, 9999)
				if !slices.Equal(first, want) || f != fault || n != steps || !slices.Equal(second, want2) {
					t.Errorf("P19.2: %v, %d, %d, then %v", first, f, n, second)
				}
			}
		})
	}
	all.Wait()
	// The clock counts as a DINT.
	if again, _, _ := ilsem.Scan(p, cells, 9+1<<32, 9999); !slices.Equal(again, want) {
		t.Errorf("P19.1: %v; want %v", again, want)
	}
}

// spared tells a list's copy, and that of what hangs on it, that has more behind
// each list's end.
func spared(l []api.Expr) []api.Expr {
	var all []api.Expr
	for _, e := range l {
		e.L = spared(e.L)
		all = append(all, e)
	}
	return append(all, api.Expr{Op: 77})[:len(l)]
}

func sparedCode(l []api.Inst) []api.Inst {
	var all []api.Inst
	for _, in := range l {
		in.E = spared(in.E)
		var args []api.Arg
		for _, a := range in.Args {
			a.E.L = spared(a.E.L)
			args = append(args, a)
		}
		in.Args = append(args, api.Arg{Name: "spare"})[:len(args)]
		all = append(all, in)
	}
	return append(all, api.Inst{Op: "spare"})[:len(l)]
}

// whole and wholeCode tell lists with what lies behind their ends.
func whole(l []api.Expr) []api.Expr {
	var all []api.Expr
	for _, e := range l[:cap(l)] {
		e.L = whole(e.L)
		all = append(all, e)
	}
	return all
}

func wholeCode(l []api.Inst) []api.Inst {
	var all []api.Inst
	for _, in := range l[:cap(l)] {
		in.E = whole(in.E)
		args := slices.Clone(in.Args[:cap(in.Args)])
		for i, a := range args {
			args[i].E.L = whole(a.E.L)
		}
		in.Args = args
		all = append(all, in)
	}
	return all
}

// DOC.md 3: what is handed in stays, spare room and all; what is told is new.
func TestMemory(t *testing.T) {
	w := &writer{Rand: rand.New(rand.NewSource(3))}
	for range 150 {
		p, err := il.Parse(w.program())
		if err != nil {
			t.Fatal(err)
		}
		p.Code = sparedCode(p.Code)
		p.Vars, p.Structs = slices.Grow(p.Vars, 5), slices.Grow(p.Structs, 2)
		before, vars, structs := wholeCode(p.Code), slices.Clone(p.Vars[:cap(p.Vars)]), slices.Clone(p.Structs[:cap(p.Structs)])
		cells := w.cells(p)
		numbers := slices.Clone(cells[:cap(cells)])
		told, fault, steps := ilsem.Scan(p, cells, 0, 99)
		want := slices.Clone(told)
		again, fault2, steps2 := ilsem.Scan(p, cells, 0, 99)
		for i := range told {
			told[i] = 77
		}
		if !slices.Equal(again, want) || fault != fault2 || steps != steps2 {
			t.Fatalf("DOC.md 8: %v, %d, %d; it was %v, %d, %d", again, fault2, steps2, want, fault, steps)
		}
		if !reflect.DeepEqual(wholeCode(p.Code), before) || !reflect.DeepEqual(p.Vars[:cap(p.Vars)], vars) || !reflect.DeepEqual(p.Structs[:cap(p.Structs)], structs) {
			t.Fatalf("DOC.md 3: changed: %+v; it was %+v", wholeCode(p.Code), before)
		}
		if !slices.Equal(cells[:cap(cells)], numbers) {
			t.Fatalf("DOC.md 3: changed: %v; it was %v", cells[:cap(cells)], numbers)
		}
	}
}

// DOC.md 9: what a tree has that its instruction doesn't name says nothing, be it
// without an end; literals and their opposites that no text is read as; names
// that no text has.
func TestOddTrees(t *testing.T) {
	knot := []api.Expr{{Op: api.ExNot}}
	knot[0].L = knot
	endless := []api.Stmt{{Op: api.StWhile, E: knot}}
	endless[0].Body = endless
	x := api.Expr{Op: api.ExVar, Name: "x", Kind: 99, N: 7}
	lit := func(kind int, n int64) api.Expr {
		return api.Expr{Op: api.ExLit, Kind: kind, N: n, Name: "y", Field: "z", L: knot}
	}
	minus := func(e api.Expr) api.Expr { return api.Expr{Op: api.ExNeg, N: 5, Kind: 3, L: []api.Expr{e}} }
	of := func(op string, e ...api.Expr) api.Inst { return api.Inst{Op: op, E: e, Args: []api.Arg{}, At: -9} }
	p := program(t, "x : INT; t : TIME; c : CTU;", "")
	p.Body = endless
	p.Code = []api.Inst{
		of("LD", minus(lit(api.KInt, 7))), of("ADD", minus(lit(0, 3))), of("SUB", lit(0, -4)), of("MUL(", minus(lit(api.KInt, -2))), of("SUB", lit(api.KInt, 1)), of(")"), of("ST", x), // (-7 - 3 + 4) * (2 - 1)
		{Label: "IF", Op: "LD", E: []api.Expr{minus(lit(api.KTime, 9))}}, of("ST", api.Expr{Op: api.ExVar, Name: "t"}),
		of("JMP", api.Expr{Op: api.ExVar, Name: "\xff", Kind: 5}),
		of("LD", lit(0, 99)), of("DIV", lit(0, 0)),
		{Label: "\xff", Args: []api.Arg{}}, {Label: "1 2"},
		{Op: "CAL", E: []api.Expr{{Op: api.ExVar, Name: "c", N: 3}}, Args: []api.Arg{{Name: "PV", E: minus(lit(0, 4)), At: -9}, {Name: "CU", E: lit(0, 1)}}},
	}
	want := []int64{-6, -9, 1, 0, -4, 1, 1, 1, 0, 0}
	if cells, fault, steps := ilsem.Scan(p, nil, 0, 99); !slices.Equal(cells, want) || fault != 0 || steps != 11 {
		t.Errorf("DOC.md 9: %v, %d, %d; want %v; %v", cells, fault, steps, want, check.Check(p))
	}
	p.Code = []api.Inst{of("LD", api.Expr{Op: api.ExVar, Name: "x", L: knot})}
	if cells, fault, steps := ilsem.Scan(p, nil, 0, 99); len(cells) != 0 || fault != 0 || steps != 0 {
		t.Errorf("DOC.md 1: endless: %v, %d, %d", cells, fault, steps)
	}

	field := func(name string) api.Var { return api.Var{Name: name, T: api.Type{Kind: api.KInt}} }
	p = api.Prog{
		Il:      true,
		Structs: []api.Struct{{Name: "", Fields: []api.Var{field(""), field("a")}}, {Name: "\xff", Fields: []api.Var{field("1"), field("\x00")}}},
		Vars:    []api.Var{{Name: "IF", T: api.Type{Kind: api.KInt}}, {Name: "a", T: api.Type{Name: "\xff"}}, {Name: "a.1", T: api.Type{Kind: api.KStruct, Name: "\xff"}}, {Name: "a[1]", T: api.Type{Kind: api.KArray, Elem: api.KInt, Lo: 1, Hi: 2}}, {Name: " ", T: api.Type{Kind: api.KFb, Name: "SR"}}},
	}
	for i, e := range []api.Expr{{Name: "IF"}, {Name: "a", Field: "1"}, {Name: "a", Field: "\x00"}, {Name: "a.1", Field: "1"}, {Name: "a.1", Field: "\x00"}, {Name: "a[1]", L: []api.Expr{lit(0, 1)}}, {Name: "a[1]", L: []api.Expr{lit(0, 2)}}} {
		e.Op = api.ExVar
		p.Code = append(p.Code, of("LD", lit(api.KInt, int64(i+1))), of("ST", e))
	}
	p.Code = append(p.Code, api.Inst{Op: "CAL", E: []api.Expr{{Op: api.ExVar, Name: " "}}, Args: []api.Arg{{Name: "S1", E: lit(0, 1)}}})
	want = []int64{1, 2, 3, 4, 5, 6, 7, 1, 0, 1, 0, 0, 0}
	if cells, fault, steps := ilsem.Scan(p, nil, 0, 99); !slices.Equal(cells, want) || fault != 0 || steps != 15 {
		t.Errorf("DOC.md 9: %v, %d, %d; want %v; %v", cells, fault, steps, want, check.Check(p))
	}
}

// DOC.md 1, 9: indices as deep as texts have them, and deeper ones; brackets; as
// long as texts are.
func TestDeep(t *testing.T) {
	const vars = "x : DINT; a : ARRAY[0..1] OF DINT;"
	deep := strings.Repeat("a[", api.MaxDepth-1) + "x" + strings.Repeat("]", api.MaxDepth-1)
	if cells, fault, steps := ilsem.Scan(program(t, vars, "LD "+deep+"|ADD 1|ST "+deep), []int64{0, 1, 1}, 0, 9); !slices.Equal(cells, []int64{0, 1, 2}) || fault != 0 || steps != 3 {
		t.Errorf("P19.1: %v, %d, %d", cells, fault, steps)
	}
	for _, depth := range []int{2 * api.MaxDepth, 20000} {
		e := api.Expr{Op: api.ExVar, Name: "x"}
		for range depth {
			e = api.Expr{Op: api.ExVar, Name: "a", L: []api.Expr{e}}
		}
		p := program(t, vars, "")
		p.Code = []api.Inst{{Op: "LD", E: []api.Expr{{Op: api.ExLit, N: 5}}}, {Op: "ST", E: []api.Expr{e}}}
		if cells, fault, steps := ilsem.Scan(p, []int64{1, 1, 1}, 0, 9); !slices.Equal(cells, []int64{1, 1, 5}) || fault != 0 || steps != 2 {
			t.Errorf("DOC.md 9: %d deep: %v, %d, %d", depth, cells, fault, steps)
		}
	}
	const many = 5000
	open := "LD 1" + strings.Repeat("|ADD( x", many) + strings.Repeat("|)", many) + "|ST x"
	if cells, fault, steps := ilsem.Scan(program(t, vars, open), []int64{2}, 0, 2*many+2); !slices.Equal(cells, []int64{2*many + 1, 0, 0}) || fault != 0 || steps != 2*many+2 {
		t.Errorf("P19.1: brackets: %v, %d, %d", cells, fault, steps)
	}
	row := "LD 0" + strings.Repeat("|ADD x", many) + "|ST x"
	for _, short := range []int{0, 1} {
		cells, fault, steps := ilsem.Scan(program(t, vars, row), []int64{3}, 0, many+2-short)
		if cells[0] != []int64{3 * many, 3}[short] || fault != api.FaultSteps*short || steps != many+2-short {
			t.Errorf("P19.1: many instructions: %v, %d, %d", cells, fault, steps)
		}
	}
	var jumps strings.Builder
	for i := range many / 4 {
		fmt.Fprintf(&jumps, "JMP l%d|LD 7|ST x|l%d:|", i, i)
	}
	if cells, fault, steps := ilsem.Scan(program(t, vars, jumps.String()+"LD 1|ST x"), nil, 0, many); cells[0] != 1 || fault != 0 || steps != many/4+2 {
		t.Errorf("P19.1: many jumps: %v, %d, %d", cells, fault, steps)
	}
}

// P19.1: as many cells as there may be, all of them reached.
func TestManyCells(t *testing.T) {
	var b strings.Builder
	for i := range 16 {
		fmt.Fprintf(&b, "a%d : ARRAY[-100..155] OF DINT; ", i)
	}
	p := program(t, b.String(), "LD 1|ST a0[-100]|LD a15[155]|ADD a7[155]|ADD a8[-100]|ST a15[155]")
	cells := make([]int64, api.MaxCells+1)
	for i := range cells {
		cells[i] = int64(i)
	}
	told, fault, steps := ilsem.Scan(p, cells, 0, 9)
	want := slices.Clone(cells[:api.MaxCells])
	want[0] = 1
	want[api.MaxCells-1] = api.MaxCells - 1 + 8*256 - 1 + 8*256
	if !slices.Equal(told, want) || fault != 0 || steps != 6 {
		t.Errorf("P19.1: %d cells, %d, %d", len(told), fault, steps)
	}
}

// scribbled tells an operand such as no text is read as: any numbers and names in
// any field.
func scribbled(w *writer, depth int) api.Expr {
	e := api.Expr{Op: pick(w, api.ExLit, api.ExLit, api.ExVar, api.ExVar, api.ExVar, w.Intn(21)), N: w.Int63n(5) - 2, At: w.Intn(99)}
	if w.is(3) {
		e.Kind = w.Intn(14) - 1
	}
	if e.Op == api.ExVar || w.is(9) {
		e.Name = pick(w, "vBOOL", "vBOOL", "vINT", "vINT", "vDINT", "aINT", "q", "bTON", "ix", "l", "")
	}
	if w.is(9) {
		e.Field = pick(w, "fINT", "fBOOL", "Q", "1")
	}
	if depth > 0 && w.is(4) {
		e.L = append(e.L, scribbled(w, depth-1))
	}
	return e
}

// DOC.md 1, 9: any instructions: what check takes is as the model tells it; of
// others nothing is told.
func TestAnyTrees(t *testing.T) {
	p, err := il.Parse(declarations() + "END_PROGRAM")
	if err != nil {
		t.Fatal(err)
	}
	w := &writer{Rand: rand.New(rand.NewSource(191))}
	ops := append(il.Ops(), "LD", "LD", "LD", "ST", "ST", "", "LD(", "NOTN", "N", "(", "C", "CN")
	taken := 0
	for range 20000 {
		p.Code = nil
		for range 1 + w.Intn(4) {
			in := api.Inst{Op: pick(w, ops...), At: w.Intn(99)}
			if len(p.Code) == 0 && !w.is(4) {
				in.Op = "LD"
			}
			if w.is(9) || in.Op == "" {
				in.Label = pick(w, "l", "m", "")
			}
			for range []int{0, 1, 1, 1, 1, 2}[w.Intn(6)] {
				in.E = append(in.E, scribbled(w, 1))
			}
			if in.Op == ")" || in.Op == "NOT" || strings.HasPrefix(in.Op, "RET") || in.Op == "" {
				in.E = in.E[:len(in.E)*w.Intn(9)/8]
			}
			if len(in.E) > 0 && strings.HasPrefix(in.Op, "JMP") {
				in.E[0] = api.Expr{Op: api.ExVar, Name: "l"}
			}
			if len(in.E) > 0 && strings.HasPrefix(in.Op, "CAL") {
				in.E[0] = api.Expr{Op: api.ExVar, Name: "bTON"}
				in.Args = append(in.Args, api.Arg{Name: pick(w, "IN", "PT", "Q"), E: scribbled(w, 1)})
			}
			p.Code = append(p.Code, in)
		}
		cells := w.cells(p)
		told, fault, steps := ilsem.Scan(p, cells, 5, 20)
		if check.Check(p) != nil {
			if len(told) != 0 || fault != 0 || steps != 0 {
				t.Fatalf("P19.1: %+v is refused: %v, %d, %d", p.Code, told, fault, steps)
			}
			continue
		}
		taken++
		m := newModel(p, cells, 5)
		wantFault, wantSteps := m.scan(20)
		if !slices.Equal(told, m.cells) || fault != wantFault || steps != wantSteps {
			t.Fatalf("DOC.md 9: %+v: %v, %d, %d; want %v, %d, %d", p.Code, told, fault, steps, m.cells, wantFault, wantSteps)
		}
	}
	if taken < 1000 {
		t.Errorf("only %d programs were taken", taken)
	}
}
