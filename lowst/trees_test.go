package lowst_test

import (
	"math/rand"
	"reflect"
	"slices"
	"strings"
	"sync"
	"testing"

	"rung/api"
	"rung/check"
	"rung/code"
	"rung/lowst"
	"rung/num"
	"rung/st"
	"rung/types"
)

// copied tells a copy of v, a tree, in which each list has so many more behind
// its end; of none more, one in which what lies behind the lists' ends is theirs.
func copied(v reflect.Value, more int) reflect.Value {
	out := reflect.New(v.Type()).Elem()
	out.Set(v)
	switch v.Kind() {
	case reflect.Struct:
		for i := range v.NumField() {
			out.Field(i).Set(copied(v.Field(i), more))
		}
	case reflect.Array:
		for i := range v.Len() {
			out.Index(i).Set(copied(v.Index(i), more))
		}
	case reflect.Slice:
		if more == 0 {
			v = v.Slice(0, v.Cap())
		}
		out.Set(reflect.MakeSlice(v.Type(), v.Len()+more, v.Len()+more))
		for i := range v.Len() {
			out.Index(i).Set(copied(v.Index(i), more))
		}
		out.SetLen(v.Len())
	}
	return out
}

// whole tells a tree with what lies behind its lists' ends.
func whole(p api.Prog) any { return copied(reflect.ValueOf(p), 0).Interface() }

// scramble changes all that is on the lists of an answer, spare room and all.
func scramble(c api.Code, p api.Prog) {
	kinds, l := c.Kinds[:cap(c.Kinds)], c.L[:cap(c.L)]
	for i := range kinds {
		kinds[i] = -1
	}
	for i := range l {
		l[i] = api.Ins{Op: -1, Name: "scrambled"}
	}
	scrambleBody(p.Body)
	for i := range p.Vars {
		p.Vars[i] = api.Var{Name: "scrambled"}
	}
}

func scrambleBody(l []api.Stmt) {
	for i := range l {
		scrambleBody(l[i].Body)
		for _, arm := range l[i].Arms {
			scrambleBody(arm.Body)
		}
		l[i] = api.Stmt{Op: -1}
	}
}

// DOC.md 3, 8: what is handed in stays, spare room and all; what is told is new,
// and the same each time, many at a time, too.
func TestMemory(t *testing.T) {
	m := &maker{rand.New(rand.NewSource(3)), newGrammar()}
	begin := declarations()
	for range 150 {
		text := begin + m.make("stmt", 4) + m.make("stmt", 4) + "END_PROGRAM"
		want, q, err := lowst.Compile(text)
		if err != nil {
			continue
		}
		p := copied(reflect.ValueOf(q), 2).Interface().(api.Prog)
		before := whole(p)
		told := code.Text(want)
		c, err := lowst.Lower(p)
		if err != nil || !reflect.DeepEqual(c, want) {
			t.Fatalf("DOC.md 8: %s: %v", text, err)
		}
		scramble(c, api.Prog{})
		if !reflect.DeepEqual(whole(p), before) {
			t.Fatalf("DOC.md 3: %s was changed", text)
		}
		scramble(want, q)
		var all sync.WaitGroup
		for range 4 {
			all.Go(func() {
				c, _, err := lowst.Compile(text)
				d, err2 := lowst.Lower(p)
				if err != nil || err2 != nil || code.Text(c) != told || !reflect.DeepEqual(c, d) {
					t.Errorf("DOC.md 8: %s: %v, %v", text, err, err2)
				}
			})
		}
		all.Wait()
	}
}

// DOC.md 2: empty lists are as nil ones.
func TestEmpty(t *testing.T) {
	x := api.Expr{Op: api.ExVar, Name: "x", L: []api.Expr{}}
	one := api.Expr{Op: api.ExLit, N: 1, L: []api.Expr{}}
	p := api.Prog{
		Structs: []api.Struct{},
		Vars:    []api.Var{{Name: "x", T: api.Type{Kind: api.KInt}, Init: []api.Expr{}}},
		Body: []api.Stmt{
			{Op: api.StAssign, V: x, E: []api.Expr{one}, Arms: []api.Arm{}, Body: []api.Stmt{}, Args: []api.Arg{}},
			{Op: api.StIf, Arms: []api.Arm{{E: []api.Expr{one}, Labels: [][2]api.Expr{}, Body: []api.Stmt{}}, {E: []api.Expr{}, Labels: [][2]api.Expr{}, Body: []api.Stmt{}}}},
			{Op: api.StCase, E: []api.Expr{x}, Arms: []api.Arm{{E: []api.Expr{}, Labels: [][2]api.Expr{{one, one}}, Body: []api.Stmt{}}, {E: []api.Expr{}, Labels: [][2]api.Expr{}, Body: []api.Stmt{}}}},
		},
		Code: []api.Inst{},
	}
	c, err := lowst.Lower(p)
	if err != nil {
		t.Fatalf("DOC.md 2: %v", err)
	}
	right(t, c, p)
	same(t, machine(t, c), p, "empty lists", nil, 0, 9)
	for _, p := range []api.Prog{{}, {Vars: []api.Var{}, Structs: []api.Struct{}, Body: []api.Stmt{}, Code: []api.Inst{}}} {
		c, err := lowst.Lower(p)
		if err != nil {
			t.Fatalf("DOC.md 2: %v", err)
		}
		right(t, c, p)
		same(t, machine(t, c), p, "nothing", nil, 0, 9)
	}
}

// DOC.md 9: what a tree has that its statement doesn't name says nothing, be it
// without an end.
func TestOddTrees(t *testing.T) {
	endless := []api.Stmt{{Op: api.StWhile, E: []api.Expr{{Op: api.ExLit, Kind: api.KBool, N: 1}}}}
	endless[0].Body = endless
	knot := []api.Expr{{Op: api.ExNot}}
	knot[0].L = knot
	p, err := st.Parse("PROGRAM p VAR x : INT; c : CTU; END_VAR x := x + 1; IF TRUE THEN x := x - -1; END_IF; " +
		"CASE x OF -1..1: x := 5; 2, INT#9: x := x + 1; END_CASE; FOR x := x TO x BY -1 DO x := x + 3; EXIT; END_FOR; " +
		"WHILE TRUE DO EXIT; END_WHILE; REPEAT x := x - 1; UNTIL TRUE END_REPEAT; c(PV := -1); RETURN; x := 1; END_PROGRAM")
	if err != nil {
		t.Fatal(err)
	}
	plain, _ := lowst.Lower(p)
	full := func(s api.Stmt) api.Stmt {
		if s.Body == nil {
			s.Body = endless
		}
		if s.Arms == nil {
			s.Arms = []api.Arm{{E: knot, Labels: [][2]api.Expr{{knot[0], knot[0]}}, Body: endless}}
		}
		if s.Args == nil {
			s.Args = []api.Arg{{Name: "y", E: knot[0]}}
		}
		if s.E == nil {
			s.E = knot
		}
		if s.V.Op == 0 {
			s.V = knot[0]
		}
		s.V.Kind, s.V.N = 99, 7
		return s
	}
	for i, s := range p.Body {
		s = full(s)
		for j := range s.E {
			if s.E[j].Op == api.ExLit {
				s.E[j].Name, s.E[j].Field, s.E[j].L = "y", "z", knot
			}
		}
		p.Body[i] = s
	}
	p.Code = []api.Inst{{Op: "FOO", E: knot}}
	c, err := lowst.Lower(p)
	if err != nil || !reflect.DeepEqual(c, plain) {
		t.Fatalf("DOC.md 9: %v\n%s\nwant\n%s", err, code.Text(c), code.Text(plain))
	}
	cells, fault, steps := machine(t, c).Scan(nil, 0, 99)
	if !slices.Equal(cells, []int64{5, 0, 0, -1, 1, 0, 0, 0, 0}) || fault != 0 || steps != 17 {
		t.Errorf("DOC.md 9: %v, %d, %d", cells, fault, steps)
	}
	for _, body := range [][]api.Stmt{endless, {{Op: api.StWhile, E: knot}}, {{Op: api.StCall, V: api.Expr{Op: api.ExVar, Name: "c"}, Args: []api.Arg{{Name: "CU", E: knot[0]}}}}} {
		p.Body = body
		if c, err := lowst.Lower(p); err == nil || !isNone(c) || !reflect.DeepEqual(err, check.Check(p)) {
			t.Errorf("DOC.md 1: endless: %v", err)
		}
	}
}

// DOC.md 9: names that no text has.
func TestOddNames(t *testing.T) {
	field := func(name string) api.Var { return api.Var{Name: name, T: api.Type{Kind: api.KInt}} }
	p := api.Prog{
		Structs: []api.Struct{{Name: "", Fields: []api.Var{field(""), field("a")}}, {Name: "\xff", Fields: []api.Var{field("1"), field("\x00")}}},
		Vars:    []api.Var{{Name: "IF", T: api.Type{Kind: api.KInt}}, {Name: "a", T: api.Type{Name: "\xff"}}, {Name: "\xff.1", T: api.Type{Kind: api.KStruct, Name: "\xff"}}, {Name: "a[1]", T: api.Type{Kind: api.KArray, Elem: api.KInt, Lo: 1, Hi: 2}}, {Name: "b", T: api.Type{Kind: api.KFb, Name: "SR"}}},
	}
	number := func(n int64) []api.Expr { return []api.Expr{{Op: api.ExLit, N: n}} }
	for i, e := range []api.Expr{{Name: "IF"}, {Name: "a", Field: "1"}, {Name: "a", Field: "\x00"}, {Name: "\xff.1", Field: "1"}, {Name: "\xff.1", Field: "\x00"}, {Name: "a[1]", L: number(1)}, {Name: "a[1]", L: number(2)}} {
		e.Op = api.ExVar
		p.Body = append(p.Body, api.Stmt{Op: api.StAssign, V: e, E: number(int64(i + 1))})
	}
	p.Body = append(p.Body, api.Stmt{Op: api.StCall, V: api.Expr{Op: api.ExVar, Name: "b"}, Args: []api.Arg{{Name: "S1", E: number(1)[0]}}})
	c, err := lowst.Lower(p)
	if err != nil {
		t.Fatalf("DOC.md 9: %v", err)
	}
	right(t, c, p)
	want := []int64{1, 2, 3, 4, 5, 6, 7, 1, 0, 1, 0, 0, 0}
	if cells, _, _ := same(t, machine(t, c), p, "odd names", nil, 0, 99); !slices.Equal(cells, want) {
		t.Errorf("DOC.md 9: %v; want %v", cells, want)
	}
}

// DOC.md 1, 9: deeper than texts are: all that is asked for is an answer.
func TestDeepTrees(t *testing.T) {
	p, err := st.Parse("PROGRAM p VAR x : INT; b : BOOL; END_VAR WHILE b DO x := x + 1; END_WHILE; END_PROGRAM")
	if err != nil {
		t.Fatal(err)
	}
	inner := p.Body[0].Body[0]
	for _, depth := range []int{2 * api.MaxDepth, 1000, 20000, api.MaxText - 1, api.MaxText, 2 * api.MaxText} {
		e := api.Expr{Op: api.ExVar, Name: "b"}
		sum := api.Expr{Op: api.ExVar, Name: "x"}
		loop, test, choice := inner, inner, inner
		for range depth - 1 {
			e = api.Expr{Op: api.ExNot, L: []api.Expr{e}}
			sum = api.Expr{Op: api.ExAdd, L: []api.Expr{sum, {Op: api.ExLit, N: 1}}}
			loop = api.Stmt{Op: api.StWhile, E: []api.Expr{{Op: api.ExLit, N: 1}}, Body: []api.Stmt{loop, {Op: api.StExit}}}
			test = api.Stmt{Op: api.StIf, Arms: []api.Arm{{E: []api.Expr{{Op: api.ExLit, N: 1}}, Body: []api.Stmt{test}}}}
			choice = api.Stmt{Op: api.StCase, E: []api.Expr{{Op: api.ExLit}}, Arms: []api.Arm{{Labels: [][2]api.Expr{{{Op: api.ExLit}, {Op: api.ExLit, N: 3}}}, Body: []api.Stmt{choice}}}}
		}
		not := api.Stmt{Op: api.StAssign, V: api.Expr{Op: api.ExVar, Name: "b"}, E: []api.Expr{e}}
		add := api.Stmt{Op: api.StAssign, V: api.Expr{Op: api.ExVar, Name: "x"}, E: []api.Expr{sum}}
		for i, s := range []api.Stmt{loop, test, choice, not, add, {Op: api.StIf, Arms: []api.Arm{{E: []api.Expr{e}}}}} {
			p.Body = []api.Stmt{s}
			c, err := lowst.Lower(p)
			wrong := check.Check(p)
			switch {
			case wrong != nil:
				if !reflect.DeepEqual(err, wrong) || !isNone(c) {
					t.Errorf("DOC.md 9: %d, %d deep: %v; want %v", i, depth, err, wrong)
				}
			case depth <= 2*api.MaxDepth || err == nil:
				if err != nil {
					t.Fatalf("DOC.md 9: %d, %d deep: %v", i, depth, err)
				}
				right(t, c, p)
				same(t, machine(t, c), p, "deep", []int64{3, 1}, 0, 1<<20)
			case !wrongAt(err, 0, api.ErrRoom) || !isNone(c):
				t.Errorf("DOC.md 9: %d, %d deep: %v", i, depth, err)
			}
		}
	}
}

// DOC.md 1, 9: any trees: of what check takes the code is as sem tells it.
func TestAnyTrees(t *testing.T) {
	p, err := st.Parse(declarations() + "END_PROGRAM")
	if err != nil {
		t.Fatal(err)
	}
	m := &maker{rand.New(rand.NewSource(91)), nil}
	taken := 0
	for range 12000 {
		p.Body = nil
		for range 1 + m.Intn(2) {
			p.Body = append(p.Body, m.anyStmt(p.Body))
		}
		c, err := lowst.Lower(p)
		if wrong := check.Check(p); wrong != nil {
			if !reflect.DeepEqual(err, wrong) || !isNone(c) {
				t.Fatalf("P22.1: %+v: %v; want %v", p.Body, err, wrong)
			}
			continue
		}
		if err != nil {
			t.Fatalf("P22.1: %+v: %v", p.Body, err)
		}
		taken++
		right(t, c, p)
		same(t, machine(t, c), p, "any tree", m.cells(p), 5, 40)
	}
	if taken < 400 {
		t.Errorf("only %d programs were taken", taken)
	}
}

func (m *maker) one(l ...string) string { return l[m.Intn(len(l))] }

// anyExpr makes an expression of any numbers and names in any field.
func (m *maker) anyExpr(depth int) api.Expr {
	e := api.Expr{Op: m.Intn(21), N: m.Int63n(5) - 2, At: m.Intn(99)}
	if m.Intn(3) == 0 {
		e.Kind = m.Intn(14) - 1
	}
	if e.Op == api.ExVar || e.Op == api.ExCall || m.Intn(9) == 0 {
		e.Name = m.one("vBOOL", "vINT", "aINT", "aINT", "q", "bTON", "ABS", "MIN", "SEL", "SHL", "INT_TO_BOOL", "", "\xff")
	}
	if m.Intn(9) == 0 {
		e.Field = m.one("fINT", "fBOOL", "Q", "1")
	}
	for range m.Intn(4) * m.Intn(2) {
		if depth > 0 {
			e.L = append(e.L, m.anyExpr(depth-1))
		}
	}
	return e
}

// anyStmt makes a statement of any parts; body: what may stand in it.
func (m *maker) anyStmt(body []api.Stmt) api.Stmt {
	s := api.Stmt{Op: m.Intn(11), V: m.anyExpr(1)}
	if m.Intn(3) > 0 {
		s.V = api.Expr{Op: api.ExVar, Name: m.one("vBOOL", "vINT", "bTON")}
	}
	for range m.Intn(4) {
		s.E = append(s.E, m.anyExpr(1))
	}
	if m.Intn(3) == 0 {
		s.Args = []api.Arg{{Name: m.one("IN", "PT", "Q"), E: m.anyExpr(1)}}
	}
	for range m.Intn(3) {
		arm := api.Arm{E: s.E, Body: body}
		if m.Intn(2) == 0 {
			arm = api.Arm{Labels: [][2]api.Expr{{m.anyExpr(1), m.anyExpr(1)}}, Body: body}
		}
		s.Arms = append(s.Arms, arm)
	}
	if m.Intn(2) == 0 {
		s.Body = body
	}
	return s
}

// P22.2: a CASE finds the first arm that has a number, however many there are
// and however their labels lie.
func TestChoices(t *testing.T) {
	m := &maker{rand.New(rand.NewSource(221)), nil}
	for round := range 600 {
		kind := []int{api.KSint, api.KInt, api.KDint, api.KUsint, api.KUint, api.KUdint}[m.Intn(6)]
		arms, numbers := m.arms(kind, 1+m.Intn(1+round/4))
		otherwise := m.Intn(2) == 0
		p := api.Prog{
			Vars: []api.Var{{Name: "n", T: api.Type{Kind: kind}}, {Name: "x", T: api.Type{Kind: api.KInt}}},
			Body: []api.Stmt{{Op: api.StCase, E: []api.Expr{{Op: api.ExVar, Name: "n"}}, Arms: arms}},
		}
		if otherwise {
			p.Body[0].Arms = append(arms, api.Arm{Body: []api.Stmt{assigned(-1)}})
		}
		c, err := lowst.Lower(p)
		if err != nil {
			t.Fatalf("P22.1: %v", err)
		}
		right(t, c, p)
		v := machine(t, c)
		for _, n := range numbers {
			n = num.Wrap(kind, n)
			want, steps := int64(0), 1
			if otherwise {
				want, steps = -1, 2
			}
			if i := slices.IndexFunc(arms, func(a api.Arm) bool { return isOf(a, n) }); i >= 0 {
				want, steps = int64(i)+1, 2
			}
			cells, fault, done := v.Scan([]int64{n, 0}, 0, 9)
			if !slices.Equal(cells, []int64{n, want}) || fault != 0 || done != steps {
				t.Fatalf("P22.2: %d of %+v: %v, %d, %d; want %d, %d", n, arms, cells, fault, done, want, steps)
			}
		}
		same(t, v, p, "choice", []int64{m.number(kind), 0}, 0, 9)
	}
}

func isOf(a api.Arm, n int64) bool {
	return slices.ContainsFunc(a.Labels, func(bounds [2]api.Expr) bool { return bounds[0].N <= n && n <= bounds[1].N })
}

// arms makes some up, whose labels lie close together or far apart; it tells the
// numbers at their edges, too.
func (m *maker) arms(kind, many int) ([]api.Arm, []int64) {
	low, high := num.Range(kind)
	wide := []int64{9, 60, 250, high - low}[m.Intn(4)]
	at := low + m.Int63n(high-low-min(wide, high-low)+1)
	pick := func() int64 { return min(at+m.Int63n(wide+1), high) }
	numbers := []int64{low, high, 0, 1}
	var arms []api.Arm
	for i := range many {
		arm := api.Arm{Body: []api.Stmt{assigned(int64(i) + 1)}}
		for range 1 + m.Intn(4) {
			a, b := pick(), pick()
			if m.Intn(2) == 0 {
				b = min(a+int64(m.Intn(3)), high)
			}
			a, b = min(a, b), max(a, b)
			arm.Labels = append(arm.Labels, [2]api.Expr{{Op: api.ExLit, N: a}, {Op: api.ExLit, Kind: kind, N: b}})
			numbers = append(numbers, a-1, a, a+1, b-1, b, b+1)
		}
		arms = append(arms, arm)
	}
	return arms, numbers
}

func assigned(n int64) api.Stmt {
	return api.Stmt{Op: api.StAssign, V: api.Expr{Op: api.ExVar, Name: "x"}, E: []api.Expr{{Op: api.ExLit, N: n}}}
}

// P22.2: each kind's numbers are counted by, to its ends, from anywhere to
// anywhere, whether what it goes by is a literal, or a variable.
func TestCounts(t *testing.T) {
	for _, kind := range []int{api.KSint, api.KInt, api.KDint, api.KUsint, api.KUint, api.KUdint} {
		low, high := num.Range(kind)
		all := []int64{low, low + 1, low / 2, -2, -1, 0, 1, 2, 3, high / 2, high - 2, high - 1, high}
		all = slices.DeleteFunc(all, func(n int64) bool { return n < low })
		text := "VAR i : K; f : K; t : K; b : K; n : INT; END_VAR FOR i := f TO t BY b DO n := n + 1; END_FOR; n := -n;"
		c, p := compiled(t, strings.ReplaceAll(text, "K", num.Name(kind)))
		v := machine(t, c)
		for _, by := range all {
			q := api.Prog{Vars: p.Vars, Body: slices.Clone(p.Body)}
			q.Body[0].E = slices.Clone(q.Body[0].E)
			q.Body[0].E[2] = api.Expr{Op: api.ExLit, N: by}
			d, err := lowst.Lower(q)
			if err != nil {
				t.Fatal(err)
			}
			w := machine(t, d)
			for _, from := range all {
				for _, to := range all {
					cells := []int64{5, from, to, by, 0}
					got, fault, steps := same(t, v, p, text, cells, 0, 30)
					told, f, n := same(t, w, q, text, cells, 0, 30)
					if !slices.Equal(got, told) || f != fault || n != steps {
						t.Fatalf("P22.3: %v: %v, %d, %d; want %v, %d, %d", cells, told, f, n, got, fault, steps)
					}
				}
			}
		}
	}
}

// P22.2: scans of many steps: the code has no more instructions for them than a
// scan may do.
func TestManySteps(t *testing.T) {
	labels := ""
	for i := range 300 {
		labels += strings.ReplaceAll("#: n := n + #; ", "#", string([]byte{'1' + byte(i/100), '0' + byte(i/10%10), '0' + byte(i%10)}))
	}
	for _, text := range []string{
		"FOR i := 1 TO 100000 DO n := n + i; END_FOR;",
		"FOR i := 100000 TO 1 BY -1 DO n := n + i; END_FOR;",
		"FOR i := 1 TO 300 DO FOR j := 1 TO 300 BY k DO END_FOR; END_FOR;",
		"WHILE i < 100000 DO i := i + 1; END_WHILE;",
		"REPEAT i := i + 1; IF i MOD 2 = 0 THEN n := n + 1; END_IF; UNTIL i = 100000 END_REPEAT;",
		"WHILE TRUE DO END_WHILE;",
		"REPEAT UNTIL FALSE END_REPEAT;",
		"FOR i := 0 TO 20000 DO CASE i MOD 400 OF " + labels + "END_CASE; END_FOR;",
	} {
		c, p := compiled(t, "VAR i : DINT; j : DINT; k : DINT; n : DINT; END_VAR "+text)
		if _, _, steps := same(t, machine(t, c), p, text, []int64{0, 0, 1}, 0, 300000); steps < 50000 {
			t.Errorf("P22.2: %s: but %d steps", text, steps)
		}
	}
}

// P22.2: as many cells as there may be, all of them reached.
func TestManyCells(t *testing.T) {
	var b strings.Builder
	b.WriteString("VAR ")
	for i := range 16 {
		b.WriteString("a" + string(rune('a'+i)) + " : ARRAY[-100..155] OF DINT; ") // aa to ap
	}
	text := b.String() + "END_VAR aa[-100] := 1; ap[155] := ap[155] + ah[155] + ai[-100]; ap[aa[-99]] := ah[aa[-98]]; ai[ap[-100] - 3841] := -1;"
	c, p := compiled(t, text)
	cells := make([]int64, len(types.Cells(p)))
	for i := range cells {
		cells[i] = int64(i)
	}
	if len(cells) != api.MaxCells {
		t.Fatal(len(cells))
	}
	if _, fault, steps := same(t, machine(t, c), p, "many cells", cells, 0, 9); fault != 0 || steps != 4 {
		t.Errorf("P22.2: %d, %d", fault, steps)
	}
}
