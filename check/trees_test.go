package check

import (
	"math"
	"math/rand"
	"reflect"
	"slices"
	"strings"
	"testing"

	"rung/api"
	"rung/st"
)

// refusedTree: e is refused, with some error; nothing is told beside it.
func refusedTree(t *testing.T, p api.Prog, e api.Expr) {
	t.Helper()
	for _, want := range []int{0, api.KBool, api.KInt, api.KDint, api.KTime, 99} {
		x, err := Elab(p, e, want)
		if _, ok := err.(*api.PlaceError); !ok || !reflect.DeepEqual(x, api.Expr{}) {
			t.Errorf("DOC.md 9: %+v: %+v, %v", e, x, err)
		}
		p.Il, p.Body = false, []api.Stmt{{Op: api.StWhile, E: []api.Expr{e}}}
		if err := Check(p); err == nil {
			t.Errorf("DOC.md 9: %+v is taken", e)
		}
	}
}

// P16.1, DOC.md 9: expressions such as no text is read as.
func TestOddExpressions(t *testing.T) {
	p, _ := statements(t, "")
	v := api.Expr{Op: api.ExVar, Name: "vINT"}
	b := api.Expr{Op: api.ExVar, Name: "vBOOL"}
	n := api.Expr{Op: api.ExLit, N: 1}
	for op := api.ExNeg; op < api.ExCall; op++ {
		for _, one := range []api.Expr{v, b, n} {
			for _, l := range [][]api.Expr{nil, {one}, {one, one}, {one, one, one}} {
				if len(l) != 2 && (op != api.ExNeg && op != api.ExNot || len(l) != 1) || len(l) == 2 && op <= api.ExNot {
					refusedTree(t, p, api.Expr{Op: op, L: l})
				}
			}
		}
	}
	for _, op := range []int{0, -1, api.ExCall + 1, 99, math.MinInt, math.MaxInt} {
		refusedTree(t, p, api.Expr{Op: op})
		refusedTree(t, p, api.Expr{Op: op, Kind: api.KBool, N: 1, Name: "vBOOL", L: []api.Expr{b, b}})
	}
	for _, e := range []api.Expr{
		{Op: api.ExLit, Kind: 12}, {Op: api.ExLit, Kind: -1}, {Op: api.ExLit, Kind: 99}, {Op: api.ExLit, Kind: api.KBool, N: 2}, {Op: api.ExLit, Kind: api.KSint, N: 128}, {Op: api.ExLit, Kind: api.KTime, N: 1 << 31}, {Op: api.ExLit, Kind: api.KUint, N: -1},
		{Op: api.ExLit, N: math.MaxInt64}, {Op: api.ExLit, N: math.MinInt64}, {Op: api.ExNeg, L: []api.Expr{{Op: api.ExLit, N: math.MinInt64}}},
		{Op: api.ExVar, Name: "aBOOL", L: []api.Expr{n, n}}, {Op: api.ExVar, Name: "q", Field: "fBOOL", L: []api.Expr{n}}, {Op: api.ExVar, Name: "aBOOL", Field: "fBOOL", L: []api.Expr{n}}, {Op: api.ExVar}, {Op: api.ExVar, Name: "bTON", Field: "2"},
		{Op: api.ExCall}, {Op: api.ExCall, Name: "ABS"}, {Op: api.ExCall, Name: "BOOL_TO_BOOL"}, {Op: api.ExCall, L: []api.Expr{n}}, {Op: api.ExCall, Name: "_TO_", L: []api.Expr{n}},
	} {
		refusedTree(t, p, e)
	}
	odd := api.Expr{Op: api.ExAdd, Kind: 7, N: 5, Name: "x", Field: "y", At: 3, L: []api.Expr{{Op: api.ExLit, N: -5, Name: "x", Field: "y", L: []api.Expr{v}, At: 4}, {Op: api.ExVar, Kind: 9, N: 5, Name: "vINT", At: 5}}}
	want := api.Expr{Op: api.ExAdd, Kind: api.KInt, At: 3, L: []api.Expr{{Op: api.ExLit, Kind: api.KInt, N: -5, At: 4}, {Op: api.ExVar, Kind: api.KInt, Name: "vINT", At: 5}}}
	if x, err := Elab(p, odd, 0); err != nil || !reflect.DeepEqual(x, want) {
		t.Errorf("DOC.md 4: %+v, %v; want %+v", x, err, want)
	}
}

// P16.2, DOC.md 9: statements such as no text is read as.
func TestOddStatements(t *testing.T) {
	p, _ := statements(t, "")
	b := []api.Expr{{Op: api.ExVar, Name: "vBOOL"}}
	i := []api.Expr{{Op: api.ExVar, Name: "vINT"}}
	two := append(slices.Clone(b), b...)
	arm := api.Arm{E: b}
	label := api.Arm{Labels: [][2]api.Expr{{{Op: api.ExLit}, {Op: api.ExLit}}}}
	var l []api.Stmt
	for _, op := range []int{0, -1, api.StCall + 1, math.MinInt, math.MaxInt} {
		l = append(l, api.Stmt{Op: op, V: b[0], E: b, Arms: []api.Arm{arm}})
	}
	for _, op := range []int{api.StAssign, api.StWhile, api.StRepeat} {
		l = append(l, api.Stmt{Op: op, V: b[0]}, api.Stmt{Op: op, V: b[0], E: two})
	}
	l = append(l, api.Stmt{Op: api.StAssign, E: b}, api.Stmt{Op: api.StAssign, V: api.Expr{Op: api.ExLit, Kind: api.KBool}, E: b}, api.Stmt{Op: api.StAssign, V: api.Expr{Op: api.ExNot, L: b}, E: b},
		api.Stmt{Op: api.StAssign, V: api.Expr{Op: api.ExVar, Name: "aBOOL", L: append(slices.Clone(i), i...)}, E: b}, api.Stmt{Op: api.StAssign, V: api.Expr{Op: api.ExVar, Name: "q", Field: "fBOOL", L: i}, E: b})
	for _, arms := range [][]api.Arm{nil, {{}}, {{}, arm}, {arm, {}, arm}, {arm, {}, {}}, {{E: two}}, {label}, {{E: b, Labels: label.Labels}}, {arm, label}} {
		l = append(l, api.Stmt{Op: api.StIf, Arms: arms})
	}
	for _, arms := range [][]api.Arm{nil, {{}}, {{}, label}, {label, {}, label}, {label, {}, {}}, {arm}, {{E: i, Labels: label.Labels}}, {label, {E: i}}} {
		l = append(l, api.Stmt{Op: api.StCase, E: i, Arms: arms})
	}
	l = append(l, api.Stmt{Op: api.StCase, Arms: []api.Arm{label}}, api.Stmt{Op: api.StCase, E: append(slices.Clone(i), i...), Arms: []api.Arm{label}}, api.Stmt{Op: api.StCase, E: i, Arms: []api.Arm{{Labels: [][2]api.Expr{{i[0], i[0]}}}}},
		api.Stmt{Op: api.StCase, E: i, Arms: []api.Arm{{Labels: [][2]api.Expr{{{Op: api.ExLit, Kind: api.KInt, N: 40000}, {Op: api.ExLit, Kind: api.KInt, N: 40000}}}}}})
	for _, many := range []int{0, 1, 4} {
		l = append(l, api.Stmt{Op: api.StFor, V: i[0], E: slices.Repeat(i, many)})
	}
	for _, v := range []api.Expr{{}, {Op: api.ExLit, Kind: api.KInt}, {Op: api.ExVar, Name: "aINT", L: i}, {Op: api.ExVar, Name: "q", Field: "fINT"}} {
		l = append(l, api.Stmt{Op: api.StFor, V: v, E: slices.Repeat(i, 2)})
	}
	for _, v := range []api.Expr{{}, {Op: api.ExCall, Name: "bTON"}, {Op: api.ExVar, Name: "bTON", Field: "Q"}, {Op: api.ExVar, Name: "bTON", L: i}} {
		l = append(l, api.Stmt{Op: api.StCall, V: v})
	}
	for _, s := range l {
		s.At = 7
		p.Body = []api.Stmt{s}
		if _, ok := Check(p).(*api.PlaceError); !ok {
			t.Errorf("DOC.md 9: %+v is taken", s)
		}
	}
}

// P16.3, DOC.md 9: a label at a bracket's other end, and without an operator.
func TestOddInstructions(t *testing.T) {
	p, _ := instructions(t, "LD vBOOL|AND( vBOOL|)")
	p.Code[2].Label = "a"
	if e := Check(p); !wrongAt(e, p.Code[2].At, api.ErrBracket) {
		t.Errorf("P16.3: %v", e)
	}
	opposite := api.Expr{Op: api.ExNeg, L: []api.Expr{{Op: api.ExVar, Name: "vINT"}}}
	for _, in := range []api.Inst{{At: 5}, {Op: "LD", E: []api.Expr{opposite}, At: 5}, {Op: "CAL", E: []api.Expr{{Op: api.ExVar, Name: "bCTU"}}, Args: []api.Arg{{Name: "PV", E: opposite}}, At: 5}, {Label: "a", E: []api.Expr{{Op: api.ExLit}}, At: 5}, {Label: "a", Args: make([]api.Arg, 1), At: 5}} {
		p.Code = []api.Inst{in}
		if e := Check(p); !wrongAt(e, 5, api.ErrOp) {
			t.Errorf("DOC.md 9: %+v: %v", in, e)
		}
	}
}

// P16.1, P16.2: expressions and statements as deep as texts have them; then
// deeper ones, and some without an end: these are refused.
func TestDeep(t *testing.T) {
	const many = 30000
	p, err := st.Parse("PROGRAM p VAR a : INT; b : BOOL; END_VAR a := a" + strings.Repeat("+a", many) + "; END_PROGRAM")
	if err != nil || Check(p) != nil {
		t.Fatalf("P16.2: a long sum: %v, %v", err, Check(p))
	}
	x, err := Elab(p, p.Body[0].E[0], api.KInt)
	for range many {
		if err != nil || x.Op != api.ExAdd || x.Kind != api.KInt || x.L[1].Kind != api.KInt {
			t.Fatalf("P16.1: a long sum: %v", err)
		}
		x = x.L[0]
	}
	p, err = st.Parse("PROGRAM p VAR a : INT; b : BOOL; END_VAR a := a" + strings.Repeat("+a", many) + "+z; END_PROGRAM")
	at := len("PROGRAM p VAR a : INT; b : BOOL; END_VAR a := a+") + 2*many
	if err != nil || !wrongAt(Check(p), at, api.ErrName) {
		t.Errorf("P16.2: a long sum: %v, %v", err, Check(p))
	}
	for _, depth := range []int{api.MaxDepth, 2 * api.MaxDepth, 1000} {
		e := api.Expr{Op: api.ExVar, Name: "b"}
		s := api.Stmt{Op: api.StAssign, V: e, E: []api.Expr{e}}
		for range depth {
			e = api.Expr{Op: api.ExNot, L: []api.Expr{e}}
			s = api.Stmt{Op: api.StWhile, E: []api.Expr{{Op: api.ExLit, N: 1}}, Body: []api.Stmt{s}}
		}
		p.Body = []api.Stmt{s, {Op: api.StAssign, V: api.Expr{Op: api.ExVar, Name: "b"}, E: []api.Expr{e}}}
		if err := Check(p); err != nil {
			t.Errorf("P16.2: %d deep: %v", depth, err)
		}
	}
	assign := api.Stmt{Op: api.StAssign, V: api.Expr{Op: api.ExVar, Name: "b"}, E: []api.Expr{{Op: api.ExVar, Name: "b"}}}
	p.Body = slices.Repeat([]api.Stmt{assign}, api.MaxText+1)
	if err := Check(p); err != nil {
		t.Errorf("P16.2: many, not deep: %v", err)
	}
	for _, op := range []int{api.ExNeg, api.ExNot, api.ExAdd, api.ExLt, api.ExVar, api.ExCall} {
		l := make([]api.Expr, 2)
		if op == api.ExNeg || op == api.ExNot || op == api.ExVar {
			l = l[:1]
		}
		for i := range l {
			l[i] = api.Expr{Op: op, Name: "MIN", L: l}
		}
		p, _ := statements(t, "")
		if l[0].Name = "MIN"; op == api.ExVar {
			l[0].Name = "aINT"
		}
		if x, err := Elab(p, l[0], 0); err == nil || !reflect.DeepEqual(x, api.Expr{}) {
			t.Errorf("DOC.md 1: endless %d: %v", op, err)
		}
	}
	for _, op := range []int{api.StIf, api.StCase, api.StWhile, api.StRepeat, api.StFor} {
		l := make([]api.Stmt, 2)
		one := []api.Expr{{Op: api.ExLit, N: 1}}
		for i := range l {
			l[i] = api.Stmt{Op: op, V: api.Expr{Op: api.ExVar, Name: "a"}, E: slices.Clone(one), Body: l, Arms: []api.Arm{{E: one, Body: l}}}
			if op == api.StCase {
				l[i].Arms = []api.Arm{{Labels: [][2]api.Expr{{one[0], one[0]}}, Body: l}}
			}
			if op == api.StFor {
				l[i].E = append(l[i].E, one...)
			}
		}
		p.Body = l
		if err := Check(p); err == nil {
			t.Errorf("DOC.md 1: endless %d is taken", op)
		}
	}
}

// scribbled tells an expression such as no text is read as: any numbers and
// names in any field.
func scribbled(r *rand.Rand, depth int) api.Expr {
	number := func() int {
		return []int{0, 0, 1, 1, 2, 3, 4, 9, 11, 12, 14, 19, 99, -1, math.MinInt, math.MaxInt}[r.Intn(16)]
	}
	e := api.Expr{Op: r.Intn(21), N: int64(number()), At: r.Intn(99)}
	if r.Intn(3) == 0 {
		e.Kind = number()
	}
	if e.Op == api.ExVar || e.Op == api.ExCall || r.Intn(9) == 0 {
		e.Name = []string{"vBOOL", "vINT", "aINT", "q", "bTON", "ix", "ABS", "MIN", "SEL", "SHL", "INT_TO_BOOL", "BOOL_TO_INT", "", "\xff"}[r.Intn(14)]
	}
	if r.Intn(9) == 0 {
		e.Field = []string{"fINT", "fBOOL", "Q", "1"}[r.Intn(4)]
	}
	for range []int{0, 0, 1, 1, 2, 2, 3}[r.Intn(7)] {
		if depth > 0 {
			e.L = append(e.L, scribbled(r, depth-1))
		}
	}
	return e
}

// P16.1 to P16.4 of any trees: they are refused, or have kinds that belong to one
// another, and numbers of their ranges.
func TestAnyTrees(t *testing.T) {
	p, _ := statements(t, "")
	r := rand.New(rand.NewSource(61))
	taken := 0
	for range 16000 {
		e := scribbled(r, 3)
		x, err := Elab(p, e, []int{0, 0, api.KBool, api.KInt, api.KDint, 99}[r.Intn(6)])
		if err == nil {
			taken++
			sound(t, x)
		} else if _, ok := err.(*api.PlaceError); !ok || !reflect.DeepEqual(x, api.Expr{}) {
			t.Fatalf("P16.1: %+v: %v, %+v", e, err, x)
		}
	}
	if taken < 300 {
		t.Errorf("only %d trees were taken", taken)
	}
	names := []string{"", "LD", "LDN", "ST", "S", "AND", "AND(", "ADD", "ADD(", "NOT", ")", "JMP", "JMPC", "CAL", "CALC", "RET", "FOO", "\xff"}
	for range 10000 {
		p.Il, p.Code, p.Body = r.Intn(2) == 0, nil, nil
		for range r.Intn(5) {
			in := api.Inst{Op: names[r.Intn(len(names))], At: r.Intn(99)}
			s := api.Stmt{Op: r.Intn(11), V: scribbled(r, 1), At: r.Intn(99)}
			for range r.Intn(3) {
				in.E, s.E = append(in.E, scribbled(r, 1)), append(s.E, scribbled(r, 1))
			}
			if r.Intn(5) == 0 {
				in.Args = []api.Arg{{Name: "IN", E: scribbled(r, 1)}}
				s.Args, s.Arms = in.Args, []api.Arm{{E: s.E, Body: p.Body}}
			}
			if r.Intn(5) == 0 {
				in.Label = names[r.Intn(3)]
			}
			p.Code, p.Body = append(p.Code, in), append(p.Body, s)
		}
		err := Check(p)
		if _, ok := err.(*api.PlaceError); err != nil && !ok {
			t.Fatalf("P16.2: %+v: %v", p, err)
		}
	}
}

// spared tells a tree that has more behind each list's end.
func spared(e api.Expr) api.Expr {
	var l []api.Expr
	for _, x := range e.L {
		l = append(l, spared(x))
	}
	e.L = append(l, api.Expr{Op: 77})[:len(l)]
	return e
}

// whole tells a tree with what lies behind its lists' ends.
func whole(e api.Expr) api.Expr {
	var l []api.Expr
	for _, x := range e.L[:cap(e.L)] {
		l = append(l, whole(x))
	}
	e.L = l
	return e
}

// scrawl overwrites a tree, and what lies behind its lists' ends.
func scrawl(l []api.Expr) {
	l = l[:cap(l)]
	for i := range l {
		scrawl(l[i].L)
		l[i] = api.Expr{Op: -1}
	}
}

// DOC.md 3, 8: what is handed in stays, spare room and all; what is told is new;
// the same again is told.
func TestMemory(t *testing.T) {
	p, _ := statements(t, "")
	r := rand.New(rand.NewSource(8))
	for range 3000 {
		k := &maker{r: r, care: 300}
		e := spared(k.expr(1+r.Intn(11), 4))
		before := whole(e)
		x, err := Elab(p, e, 0)
		first := whole(x)
		again, err2 := Elab(p, e, 0)
		if !reflect.DeepEqual(x, again) || !reflect.DeepEqual(err, err2) {
			t.Fatalf("DOC.md 8: %+v: %+v, %v, then %+v, %v", e, x, err, again, err2)
		}
		scrawl(x.L)
		if !reflect.DeepEqual(whole(e), before) {
			t.Fatalf("DOC.md 3: changed: %+v; it was %+v", whole(e), before)
		}
		if !reflect.DeepEqual(whole(again), first) {
			t.Fatalf("DOC.md 3: shared: %+v; it was %+v", whole(again), first)
		}
	}
	for range 1000 {
		seed := r.Int63()
		made := func() api.Prog {
			p := p
			k := &maker{r: rand.New(rand.NewSource(seed)), care: 300}
			p.Body, p.Code = append(k.body(3), api.Stmt{Op: 77}), append(k.code(), api.Inst{Op: "spare"})
			p.Body, p.Code = p.Body[:len(p.Body)-1], p.Code[:len(p.Code)-1]
			p.Il = seed%2 == 0
			return p
		}
		p, same := made(), made()
		err := Check(p)
		if again := Check(p); !reflect.DeepEqual(err, again) {
			t.Fatalf("DOC.md 8: %v, then %v", err, again)
		}
		p.Body, same.Body = p.Body[:len(p.Body)+1], same.Body[:len(same.Body)+1]
		p.Code, same.Code = p.Code[:len(p.Code)+1], same.Code[:len(same.Code)+1]
		if !reflect.DeepEqual(p, same) {
			t.Fatalf("DOC.md 3: changed: %+v; it was %+v", p, same)
		}
	}
}
