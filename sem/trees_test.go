package sem

import (
	"math/rand"
	"reflect"
	"slices"
	"strings"
	"sync"
	"testing"

	"rung/api"
	"rung/check"
	"rung/st"
)

// P18.4: the same scan, many at a time.
func TestSame(t *testing.T) {
	p := program(t, "VAR i : INT; s : DINT; a : ARRAY[0..4] OF INT; t1 : TP; c : CTU; END_VAR t1(IN := i = 0, PT := T#5ms); FOR i := 0 TO 40 DO c(CU := i MOD 2 = 0, PV := 9); a[i MOD 5] := a[(i + 1) MOD 5] + c.CV; s := s + INT_TO_DINT(i); END_FOR; IF c.Q THEN i := 0; END_IF;")
	cells := []int64{0, 5, 1, 2, 3, 4, 5}
	want, fault, steps := Scan(p, cells, 9, 999)
	if fault != 0 || steps < 100 {
		t.Fatalf("P18.4: %v, %d, %d", want, fault, steps)
	}
	want2, _, _ := Scan(p, want, 14, 999)
	var all sync.WaitGroup
	for range 8 {
		all.Go(func() {
			for range 20 {
				first, f, n := Scan(p, cells, 9, 999)
				second, _, _ := Scan(p, first, 14, 999)
				if !slices.Equal(first, want) || f != fault || n != steps || !slices.Equal(second, want2) {
					t.Errorf("P18.4: %v, %d, %d, then %v", first, f, n, second)
				}
			}
		})
	}
	all.Wait()
	// The clock counts as a DINT.
	if again, _, _ := Scan(p, cells, 9+1<<32, 999); !slices.Equal(again, want) {
		t.Errorf("P18.3: %v; want %v", again, want)
	}
}

// spared tells a tree's copy that has more behind each list's end.
func spared(e api.Expr) api.Expr {
	e.L = spareExprs(e.L)
	return e
}

func spareExprs(l []api.Expr) []api.Expr {
	var all []api.Expr
	for _, x := range l {
		all = append(all, spared(x))
	}
	return append(all, api.Expr{Op: 77})[:len(l)]
}

func spareBody(l []api.Stmt) []api.Stmt {
	var all []api.Stmt
	for _, s := range l {
		s.V, s.E, s.Body = spared(s.V), spareExprs(s.E), spareBody(s.Body)
		var arms []api.Arm
		for _, a := range s.Arms {
			arms = append(arms, api.Arm{E: spareExprs(a.E), Labels: append(slices.Clone(a.Labels), [2]api.Expr{{Op: 77}})[:len(a.Labels)], Body: spareBody(a.Body)})
		}
		s.Arms = append(arms, api.Arm{E: []api.Expr{{Op: 77}}})[:len(arms)]
		var args []api.Arg
		for _, a := range s.Args {
			args = append(args, api.Arg{Name: a.Name, E: spared(a.E), At: a.At})
		}
		s.Args = append(args, api.Arg{Name: "spare"})[:len(args)]
		all = append(all, s)
	}
	return append(all, api.Stmt{Op: 77})[:len(l)]
}

// wholeExprs and wholeBody tell lists with what lies behind their ends.
func wholeExprs(l []api.Expr) []api.Expr {
	var all []api.Expr
	for _, x := range l[:cap(l)] {
		x.L = wholeExprs(x.L)
		all = append(all, x)
	}
	return all
}

func wholeBody(l []api.Stmt) []api.Stmt {
	var all []api.Stmt
	for _, s := range l[:cap(l)] {
		s.V.L, s.E, s.Body = wholeExprs(s.V.L), wholeExprs(s.E), wholeBody(s.Body)
		arms := slices.Clone(s.Arms[:cap(s.Arms)])
		for i, a := range arms {
			arms[i] = api.Arm{E: wholeExprs(a.E), Labels: slices.Clone(a.Labels[:cap(a.Labels)]), Body: wholeBody(a.Body)}
		}
		args := slices.Clone(s.Args[:cap(s.Args)])
		for i, a := range args {
			args[i].E.L = wholeExprs(a.E.L)
		}
		s.Arms, s.Args = arms, args
		all = append(all, s)
	}
	return all
}

// DOC.md 3: what is handed in stays, spare room and all; what is told is new.
func TestMemory(t *testing.T) {
	k := &maker{rand.New(rand.NewSource(3))}
	begin := declarations()
	for range 150 {
		p, err := st.Parse(begin + k.body(3, false) + k.stmt(3, false) + "END_PROGRAM")
		if err != nil {
			t.Fatal(err)
		}
		p.Body = spareBody(p.Body)
		p.Vars = slices.Grow(p.Vars, 5)
		p.Structs = slices.Grow(p.Structs, 2)
		before, vars, structs := wholeBody(p.Body), slices.Clone(p.Vars[:cap(p.Vars)]), slices.Clone(p.Structs[:cap(p.Structs)])
		cells := k.cells(p)
		numbers := slices.Clone(cells[:cap(cells)])
		told, fault, steps := Scan(p, cells, 0, 99)
		want := slices.Clone(told)
		again, fault2, steps2 := Scan(p, cells, 0, 99)
		for i := range told {
			told[i] = 77
		}
		if !slices.Equal(again, want) || fault != fault2 || steps != steps2 {
			t.Fatalf("DOC.md 8: %v, %d, %d; it was %v, %d, %d", again, fault2, steps2, want, fault, steps)
		}
		e := spared(expr(t, k.expr(1+k.Intn(11), 3)))
		one := wholeExprs([]api.Expr{e})
		Eval(p, e, 0, cells)
		Start(p)
		if !reflect.DeepEqual(wholeBody(p.Body), before) || !reflect.DeepEqual(p.Vars[:cap(p.Vars)], vars) || !reflect.DeepEqual(p.Structs[:cap(p.Structs)], structs) || !reflect.DeepEqual(wholeExprs([]api.Expr{e}), one) {
			t.Fatalf("DOC.md 3: changed: %+v; it was %+v", wholeBody(p.Body), before)
		}
		if !slices.Equal(cells[:cap(cells)], numbers) {
			t.Fatalf("DOC.md 3: changed: %v; it was %v", cells[:cap(cells)], numbers)
		}
	}
}

// DOC.md 9: what a tree has that its statement doesn't name says nothing, be it
// without an end.
func TestOddTrees(t *testing.T) {
	endless := []api.Stmt{{Op: api.StWhile, E: []api.Expr{{Op: api.ExLit, Kind: api.KBool, N: 1}}}}
	endless[0].Body = endless
	knot := []api.Expr{{Op: api.ExNot}}
	knot[0].L = knot
	x := api.Expr{Op: api.ExVar, Name: "x", Kind: 99, N: 7}
	one := api.Expr{Op: api.ExLit, N: 1, Name: "y", Field: "z", L: knot}
	minus := api.Expr{Op: api.ExNeg, N: 5, Name: "y", L: []api.Expr{one}}
	arms := []api.Arm{{E: knot, Labels: [][2]api.Expr{{knot[0], knot[0]}}, Body: endless}}
	args := []api.Arg{{Name: "y", E: knot[0]}}
	truth := []api.Expr{{Op: api.ExLit, Kind: api.KBool, N: 1, L: knot}}
	whole := func(s api.Stmt) api.Stmt {
		if s.Body == nil {
			s.Body = endless
		}
		if s.Arms == nil {
			s.Arms = arms
		}
		if s.Args == nil {
			s.Args = args
		}
		if s.E == nil {
			s.E = knot
		}
		if s.V.Op == 0 {
			s.V = knot[0]
		}
		return s
	}
	add := whole(api.Stmt{Op: api.StAssign, V: x, E: []api.Expr{{Op: api.ExAdd, L: []api.Expr{x, one}}}})
	leave := []api.Stmt{add, whole(api.Stmt{Op: api.StExit})}
	p := program(t, "VAR x : INT; c : CTU; END_VAR")
	p.Body = []api.Stmt{
		add,
		whole(api.Stmt{Op: api.StAssign, V: x, E: []api.Expr{{Op: api.ExSub, L: []api.Expr{x, minus}}}}),
		whole(api.Stmt{Op: api.StIf, Arms: []api.Arm{{E: truth, Body: []api.Stmt{add}}, {Body: endless[:0]}}}),
		whole(api.Stmt{Op: api.StCase, E: []api.Expr{x}, Arms: []api.Arm{{Labels: [][2]api.Expr{{minus, one}}}, {Labels: [][2]api.Expr{{one, {Op: api.ExLit, Kind: api.KInt, N: 9, L: knot}}}, Body: []api.Stmt{add}}}}),
		whole(api.Stmt{Op: api.StFor, V: x, E: []api.Expr{x, x, minus}, Body: leave}),
		whole(api.Stmt{Op: api.StWhile, E: truth, Body: leave}),
		whole(api.Stmt{Op: api.StRepeat, E: truth, Body: []api.Stmt{add}}),
		whole(api.Stmt{Op: api.StCall, V: api.Expr{Op: api.ExVar, Name: "c", N: 3}, Args: []api.Arg{{Name: "PV", E: minus, At: -9}}}),
		whole(api.Stmt{Op: api.StReturn}),
		add,
	}
	want := []int64{7, 0, 0, -1, 1, 0, 0, 0, 0}
	if cells, fault, steps := Scan(p, nil, 0, 99); !slices.Equal(cells, want) || fault != 0 || steps != 19 {
		t.Errorf("DOC.md 9: %v, %d, %d; want %v; %v", cells, fault, steps, want, check.Check(p))
	}
	if n, fault, err := Eval(p, api.Expr{Op: api.ExMul, Kind: 88, L: []api.Expr{minus, minus}}, api.KInt, nil); n != 1 || fault != 0 || err != nil {
		t.Errorf("DOC.md 9: %d, %d, %v", n, fault, err)
	}
	p.Code = []api.Inst{{Op: "FOO", E: knot}}
	if cells, _, steps := Scan(p, nil, 0, 99); !slices.Equal(cells, want) || steps != 19 {
		t.Errorf("DOC.md 9: %v, %d", cells, steps)
	}
	p.Body = endless
	if cells, fault, steps := Scan(p, nil, 0, 99); len(cells) != 0 || fault != 0 || steps != 0 || len(Start(p)) != 0 {
		t.Errorf("DOC.md 1: endless: %v, %d, %d", cells, fault, steps)
	}
	p.Body = nil
	if n, fault, err := Eval(p, knot[0], 0, nil); n != 0 || fault != 0 || err == nil {
		t.Errorf("DOC.md 1: endless: %d, %d, %v", n, fault, err)
	}
}

// DOC.md 9: names that no text has.
func TestOddNames(t *testing.T) {
	field := func(name string) api.Var { return api.Var{Name: name, T: api.Type{Kind: api.KInt}} }
	p := api.Prog{
		Structs: []api.Struct{{Name: "", Fields: []api.Var{field(""), field("a")}}, {Name: "\xff", Fields: []api.Var{field("1"), field("\x00")}}},
		Vars:    []api.Var{{Name: "IF", T: api.Type{Kind: api.KInt}}, {Name: "a", T: api.Type{Name: "\xff"}}, {Name: "\xff.1", T: api.Type{Kind: api.KStruct, Name: "\xff"}}, {Name: "a[1]", T: api.Type{Kind: api.KArray, Elem: api.KInt, Lo: 1, Hi: 2}}, {Name: "b", T: api.Type{Kind: api.KFb, Name: "SR"}}},
	}
	number := func(n int64) []api.Expr { return []api.Expr{{Op: api.ExLit, N: n}} }
	for i, e := range []api.Expr{{Name: "IF"}, {Name: "a", Field: "1"}, {Name: "a", Field: "\x00"}, {Name: "\xff.1", Field: "1"}, {Name: "\xff.1", Field: "\x00"}, {Name: "a[1]", L: number(1)}, {Name: "a[1]", L: number(2)}} {
		e.Op = api.ExVar
		p.Body = append(p.Body, api.Stmt{Op: api.StAssign, V: e, E: number(int64(i + 1))})
	}
	p.Body = append(p.Body, api.Stmt{Op: api.StCall, V: api.Expr{Op: api.ExVar, Name: "b"}, Args: []api.Arg{{Name: "S1", E: number(1)[0]}}})
	if err := check.Check(p); err != nil {
		t.Fatalf("DOC.md 9: %v", err)
	}
	want := []int64{1, 2, 3, 4, 5, 6, 7, 1, 0, 1, 0, 0, 0}
	if cells, fault, steps := Scan(p, nil, 0, 99); !slices.Equal(cells, want) || fault != 0 || steps != 8 {
		t.Errorf("DOC.md 9: %v, %d, %d; want %v", cells, fault, steps, want)
	}
}

// DOC.md 1, 9: statements and expressions as deep as texts have them, and deeper
// ones; as long as texts have them.
func TestDeep(t *testing.T) {
	const loops = "WHILE TRUE DO "
	text := "VAR x : INT; b : BOOL; END_VAR " + strings.Repeat(loops, api.MaxDepth-1) + "x := " + strings.Repeat("(", api.MaxDepth-1) + "x + 1" + strings.Repeat(")", api.MaxDepth-1) + "; RETURN;" + strings.Repeat(" END_WHILE;", api.MaxDepth-1)
	if cells, fault, steps := Scan(program(t, text), nil, 0, 999); !slices.Equal(cells, []int64{1, 0}) || fault != 0 || steps != 2*api.MaxDepth {
		t.Errorf("P18.3: %v, %d, %d", cells, fault, steps)
	}
	p := program(t, "VAR x : INT; b : BOOL; END_VAR")
	for _, depth := range []int{2 * api.MaxDepth, 20000} {
		e := api.Expr{Op: api.ExVar, Name: "b"}
		s := api.Stmt{Op: api.StExit}
		for range depth {
			e = api.Expr{Op: api.ExNot, L: []api.Expr{e}}
			s = api.Stmt{Op: api.StWhile, E: []api.Expr{{Op: api.ExLit, N: 1}}, Body: []api.Stmt{s, {Op: api.StExit}}}
		}
		p.Body = []api.Stmt{s, {Op: api.StAssign, V: api.Expr{Op: api.ExVar, Name: "b"}, E: []api.Expr{e}}}
		if cells, fault, steps := Scan(p, []int64{0, 1}, 0, 1<<20); !slices.Equal(cells, []int64{0, 1}) || fault != 0 || steps != 3*depth+1 {
			t.Errorf("DOC.md 9: %d deep: %v, %d, %d", depth, cells, fault, steps)
		}
	}
	const many = 30000
	sum := "VAR x : INT; b : BOOL; END_VAR x := x" + strings.Repeat("+x", many) + ";"
	if cells, fault, steps := Scan(program(t, sum), []int64{1}, 0, 9); !slices.Equal(cells, []int64{many + 1, 0}) || fault != 0 || steps != 1 {
		t.Errorf("P18.2: a long sum: %v, %d, %d", cells, fault, steps)
	}
	const short = 8000
	row := "VAR x : INT; b : BOOL; END_VAR " + strings.Repeat("x:=x+1;", short)
	if cells, fault, steps := Scan(program(t, row), nil, 0, short+9); !slices.Equal(cells, []int64{short, 0}) || fault != 0 || steps != short {
		t.Errorf("P18.3: many statements: %v, %d, %d", cells, fault, steps)
	}
	if cells, fault, steps := Scan(program(t, row), nil, 0, short-1); !slices.Equal(cells, []int64{short - 1, 0}) || fault != api.FaultSteps || steps != short-1 {
		t.Errorf("P18.1: many statements: %v, %d, %d", cells, fault, steps)
	}
}

// P18.1: as many cells as there may be, all of them reached.
func TestManyCells(t *testing.T) {
	var b strings.Builder
	b.WriteString("VAR ")
	for i := range 16 {
		b.WriteString("a" + string(rune('a'+i)) + " : ARRAY[-100..155] OF DINT; ") // aa to ap
	}
	p := program(t, b.String()+"END_VAR aa[-100] := 1; ap[155] := ap[155] + ah[155] + ai[-100];")
	cells := make([]int64, api.MaxCells+1)
	for i := range cells {
		cells[i] = int64(i)
	}
	told, fault, steps := Scan(p, cells, 0, 9)
	if len(told) != api.MaxCells || fault != 0 || steps != 2 {
		t.Fatalf("P18.1: %d cells, %d, %d", len(told), fault, steps)
	}
	want := slices.Clone(cells[:api.MaxCells])
	want[0] = 1
	want[api.MaxCells-1] = api.MaxCells - 1 + 8*256 - 1 + 8*256
	if !slices.Equal(told, want) {
		t.Errorf("P18.1: %v", told)
	}
}

// scribbled tells an expression such as no text is read as: any numbers and
// names in any field.
func scribbled(r *rand.Rand, depth int) api.Expr {
	e := api.Expr{Op: r.Intn(21), N: r.Int63n(5) - 2, At: r.Intn(99)}
	if r.Intn(3) == 0 {
		e.Kind = r.Intn(14) - 1
	}
	if e.Op == api.ExVar || e.Op == api.ExCall || r.Intn(9) == 0 {
		e.Name = []string{"vBOOL", "vINT", "aINT", "aINT", "q", "bTON", "ix", "ABS", "MIN", "SEL", "SHL", "INT_TO_BOOL", "", "\xff"}[r.Intn(14)]
	}
	if r.Intn(9) == 0 {
		e.Field = []string{"fINT", "fBOOL", "Q", "1"}[r.Intn(4)]
	}
	for range []int{0, 0, 1, 1, 2, 2, 3}[r.Intn(7)] {
		if depth > 0 {
			e.L = append(e.L, scribbled(r, depth-1))
		}
	}
	return e
}

// DOC.md 1, 9: any trees: what check takes is as the model tells it; of others
// nothing is told.
func TestAnyTrees(t *testing.T) {
	p, err := st.Parse(declarations() + "END_PROGRAM")
	if err != nil {
		t.Fatal(err)
	}
	r := rand.New(rand.NewSource(91))
	k := &maker{r}
	taken := 0
	for range 8000 {
		p.Body = nil
		for range 1 + r.Intn(2) {
			s := api.Stmt{Op: r.Intn(11), V: scribbled(r, 1)}
			if r.Intn(3) > 0 {
				s.V = api.Expr{Op: api.ExVar, Name: []string{"vBOOL", "vINT", "bTON"}[r.Intn(3)]}
			}
			for range r.Intn(4) {
				s.E = append(s.E, scribbled(r, 1))
			}
			if r.Intn(3) == 0 {
				s.Args = []api.Arg{{Name: []string{"IN", "PT", "Q"}[r.Intn(3)], E: scribbled(r, 1)}}
			}
			for range r.Intn(3) {
				s.Arms = append(s.Arms, api.Arm{E: s.E, Body: p.Body})
			}
			if r.Intn(2) == 0 {
				s.Body = p.Body
			}
			p.Body = append(p.Body, s)
		}
		cells := k.cells(p)
		told, fault, steps := Scan(p, cells, 5, 40)
		if check.Check(p) != nil {
			if len(told) != 0 || fault != 0 || steps != 0 {
				t.Fatalf("P18.1: %+v is refused: %v, %d, %d", p.Body, told, fault, steps)
			}
			continue
		}
		taken++
		m := newModel(p, cells, 5, 40)
		want := m.scan()
		if !slices.Equal(told, m.numbers()) || fault != want || steps != m.steps {
			t.Fatalf("DOC.md 9: %+v: %v, %d, %d; want %v, %d, %d", p.Body, told, fault, steps, m.numbers(), want, m.steps)
		}
	}
	if taken < 300 {
		t.Errorf("only %d programs were taken", taken)
	}
}
