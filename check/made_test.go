package check

import (
	"maps"
	"math/rand"
	"reflect"
	"slices"
	"strings"
	"testing"

	"rung/api"
	"rung/num"
)

// maker makes trees up, such as texts are read as; care is how seldom it goes
// wrong: once in that many times.
type maker struct {
	r    *rand.Rand
	care int
	at   int
}

func (k *maker) slip() bool { return k.r.Intn(k.care) == 0 }

func (k *maker) place() int {
	k.at += 1 + k.r.Intn(5)
	return k.at
}

func pick[T any](k *maker, l ...T) T { return l[k.r.Intn(len(l))] }

func (k *maker) number(kind int) int64 {
	low, high := ranges[kind][0], ranges[kind][1]
	if k.slip() {
		return pick(k, low-1, high+1, -1, 2, 70000, 1<<32-1)
	}
	return pick(k, low, high, 0, 1, 1, low+k.r.Int63n(high-low+1))
}

// lit makes a literal for that kind: a plain one, if that may be, or a typed one.
func (k *maker) lit(kind int, mayPlain bool) api.Expr {
	if kind != api.KTime && mayPlain || k.slip() {
		n := k.number(kind)
		if n < 0 {
			return api.Expr{Op: api.ExNeg, At: k.place(), L: []api.Expr{{Op: api.ExLit, N: -n, At: k.place()}}}
		}
		return api.Expr{Op: api.ExLit, N: n, At: k.place()}
	}
	return api.Expr{Op: api.ExLit, Kind: kind, N: num.Wrap(kind, k.number(kind)), At: k.place()}
}

func (k *maker) kind(kind int) int {
	if k.slip() {
		return 1 + k.r.Intn(11)
	}
	return kind
}

// variable makes one of that kind; target: one that may be assigned to.
func (k *maker) variable(kind, depth int, target bool) api.Expr {
	kind = k.kind(kind)
	e := api.Expr{Op: api.ExVar, At: k.place(), Name: "v" + words[kind]}
	switch k.r.Intn(6) {
	case 0, 1:
		e.Name, e.L = "a"+words[kind], []api.Expr{k.expr(pick(k, integers...), depth-1)}
		if k.r.Intn(2) == 0 {
			e.L[0] = k.lit(api.KSint, true)
		}
	case 2:
		e.Name, e.Field = "q", "f"+words[kind]
	case 3:
		if !target && (kind == api.KBool || kind == api.KTime || kind == api.KInt) {
			e.Name = "b" + pick(k, "TON", "TOF", "TP", "CTU", "CTD", "CTUD")
			e.Field = pick(k, "Q", "ET", "PV", "IN", "PT", "CV")
		}
	case 4:
		if kind == api.KBool {
			e.Name = pick(k, "qx", "mx")
		}
		if !target && kind == api.KInt {
			e.Name = pick(k, "iw", "qw")
		}
	}
	if k.slip() {
		e.Name = pick(k, "z", "q", "aINT", "bTON", "vINT", "s", "ix", "iw")
	}
	if k.slip() {
		e.Field, e.L = pick(k, "z", "Q", "fINT", "1"), nil
	}
	if k.slip() {
		e.Field, e.L = "", nil
	}
	return e
}

// expr makes an expression of that kind, most often.
func (k *maker) expr(kind, depth int) api.Expr {
	kind = k.kind(kind)
	if depth <= 0 || k.r.Intn(4) == 0 {
		if k.r.Intn(2) == 0 {
			return k.lit(kind, k.r.Intn(3) > 0)
		}
		return k.variable(kind, depth, false)
	}
	if kind == api.KBool && k.r.Intn(2) == 0 {
		of := pick(k, scalars...)
		op := pick(k, api.ExLt, api.ExGt, api.ExLe, api.ExGe, api.ExEq, api.ExNe)
		return k.node(op, k.expr(of, depth-1), k.expr(of, depth-1))
	}
	if k.r.Intn(3) == 0 {
		return k.call(kind, depth-1)
	}
	var may []int
	for op := api.ExNeg; op < api.ExCall; op++ {
		if !comparison(op) && slices.Contains(mayStand[op], kind) || k.slip() {
			may = append(may, op)
		}
	}
	op := pick(k, may...)
	if op == api.ExNeg || op == api.ExNot {
		return k.node(op, k.expr(kind, depth-1))
	}
	return k.node(op, k.expr(kind, depth-1), k.expr(kind, depth-1))
}

func (k *maker) node(op int, l ...api.Expr) api.Expr {
	return api.Expr{Op: op, L: l, At: k.place()}
}

func (k *maker) call(kind, depth int) api.Expr {
	from := pick(k, scalars...)
	e := api.Expr{Op: api.ExCall, Name: words[from] + "_TO_" + words[kind], At: k.place()}
	kinds := []int{from}
	switch {
	case k.r.Intn(4) == 0:
	case slices.Contains(moved, kind) && k.r.Intn(2) == 0:
		e.Name, kinds = pick(k, "SHL", "SHR", "ROL", "ROR"), []int{kind, api.KUint}
	case slices.Contains(signed, kind) && k.r.Intn(4) == 0:
		e.Name, kinds = "ABS", []int{kind}
	case slices.Contains(amounts, kind) && k.r.Intn(2) == 0:
		e.Name, kinds = pick(k, "MIN", "MAX"), []int{kind, kind}
		if k.r.Intn(2) == 0 {
			e.Name, kinds = "LIMIT", []int{kind, kind, kind}
		}
	case k.r.Intn(2) == 0:
		e.Name, kinds = "SEL", []int{api.KBool, kind, kind}
	}
	if k.slip() {
		kinds = append(kinds, api.KUint)
	}
	if k.slip() {
		e.Name = pick(k, "FOO", "INT_TO_", "ABS", "LIMIT", "SHL", "MIN", "TON", "SEL")
	}
	for _, kind := range kinds {
		e.L = append(e.L, k.expr(kind, depth))
	}
	return e
}

func (k *maker) body(depth int) []api.Stmt {
	var l []api.Stmt
	for range k.r.Intn(3) {
		l = append(l, k.stmt(depth))
	}
	return l
}

func (k *maker) stmt(depth int) api.Stmt {
	s := api.Stmt{Op: pick(k, api.StAssign, api.StAssign, api.StCall), At: k.place()}
	if depth > 0 {
		s.Op = pick(k, api.StAssign, api.StIf, api.StCase, api.StFor, api.StWhile, api.StRepeat, api.StCall)
	}
	if k.slip() {
		s.Op = pick(k, api.StExit, api.StReturn)
	}
	kind := pick(k, scalars...)
	switch s.Op {
	case api.StAssign:
		s.V = k.variable(kind, 2, true)
		s.E = []api.Expr{k.expr(kind, 3)}
	case api.StIf:
		for range 1 + k.r.Intn(2) {
			s.Arms = append(s.Arms, api.Arm{E: []api.Expr{k.expr(api.KBool, 2)}, Body: k.body(depth - 1)})
		}
	case api.StCase:
		kind = k.kind(pick(k, integers...))
		s.E = []api.Expr{k.variable(kind, 2, false)}
		if kind == api.KDint {
			s.E = []api.Expr{k.expr(kind, 2)}
		}
		for range 1 + k.r.Intn(2) {
			s.Arms = append(s.Arms, api.Arm{Labels: k.labels(kind), Body: k.body(depth - 1)})
		}
	case api.StFor:
		kind = k.kind(pick(k, integers...))
		s.V = api.Expr{Op: api.ExVar, Name: "v" + words[kind], At: k.place()}
		if k.slip() {
			s.V.Name = pick(k, "z", "q", "aINT", "bTON", "vBOOL", "iw", "vTIME", "mw")
		}
		for range 2 + k.r.Intn(2) {
			s.E = append(s.E, k.expr(kind, 2))
		}
		s.Body = k.loop(depth)
	case api.StWhile, api.StRepeat:
		s.E = []api.Expr{k.expr(api.KBool, 3)}
		s.Body = k.loop(depth)
	case api.StCall:
		s.V = api.Expr{Op: api.ExVar, At: s.At}
		s.V.Name, s.Args = k.blockCall(func(kind int) api.Expr { return k.expr(kind, 2) })
	}
	if (s.Op == api.StIf || s.Op == api.StCase) && k.r.Intn(2) == 0 {
		s.Arms = append(s.Arms, api.Arm{Body: k.body(depth - 1)})
	}
	return s
}

func (k *maker) loop(depth int) []api.Stmt {
	l := k.body(depth - 1)
	if k.r.Intn(3) == 0 {
		l = append(l, api.Stmt{Op: api.StExit, At: k.place()})
	}
	return l
}

func (k *maker) labels(kind int) [][2]api.Expr {
	var l [][2]api.Expr
	for range 1 + k.r.Intn(3) {
		low := k.lit(kind, k.r.Intn(3) > 0)
		pair := [2]api.Expr{low, low}
		if k.r.Intn(2) == 0 {
			pair[1] = k.lit(kind, k.r.Intn(3) > 0)
		}
		if n := modelNumber(pair[0]); n > modelNumber(pair[1]) && !k.slip() {
			pair[0], pair[1] = pair[1], pair[0]
		}
		l = append(l, pair)
	}
	return l
}

func (k *maker) blockCall(value func(kind int) api.Expr) (string, []api.Arg) {
	block := pick(k, "TON", "TOF", "TP", "CTU", "CTD", "CTUD", "R_TRIG", "F_TRIG", "SR", "RS")
	var args []api.Arg
	l := strings.Fields(modelPins[block][0])
	for i := 0; i < len(l); i += 2 {
		if k.r.Intn(2) == 0 {
			name := l[i]
			if k.slip() {
				name = pick(k, "Q", "CV", "IN", "CU", "z", "")
			}
			args = append(args, api.Arg{Name: name, E: value(slices.Index(words, l[i+1])), At: k.place()})
		}
	}
	if k.slip() {
		return pick(k, "z", "vINT", "q", "TON", ""), args
	}
	return "b" + block, args
}

// code makes instructions up; acc is the kind that it takes the accumulator for.
func (k *maker) code() []api.Inst {
	var l []api.Inst
	acc, open := 0, []int{}
	for range k.r.Intn(16) {
		in := api.Inst{At: k.place()}
		if len(open) == 0 && k.r.Intn(6) == 0 || k.slip() {
			in.Label, acc = pick(k, "a", "b", "c", "d", "e"), 0
			if slices.ContainsFunc(l, func(o api.Inst) bool { return o.Label == in.Label }) && !k.slip() {
				in.Label = ""
			}
		}
		switch {
		case acc == 0 || k.r.Intn(6) == 0:
			acc = pick(k, scalars...)
			in.Op = pick(k, "LD", "LD", "LDN")
			if in.Op == "LDN" && !k.slip() {
				acc = pick(k, bits...)
			}
			in.E = []api.Expr{k.value(acc)}
		case len(open) > 0 && k.r.Intn(4) == 0 && (acc == open[len(open)-1] || k.slip()):
			in.Op, acc = ")", acc%100
			open = open[:len(open)-1]
		case k.r.Intn(3) == 0:
			k.other(&in, acc, len(open) > 0)
		default:
			acc, open = k.operation(&in, acc, open)
		}
		l = append(l, in)
	}
	for range open {
		if !k.slip() {
			l = append(l, api.Inst{Op: "LD", E: []api.Expr{k.value(open[len(open)-1])}, At: k.place()}, api.Inst{Op: ")", At: k.place()})
			open = open[:len(open)-1]
		}
	}
	for _, label := range []string{"a", "b", "c", "d", "e"} {
		if !slices.ContainsFunc(l, func(o api.Inst) bool { return o.Label == label }) && !k.slip() {
			l = append(l, api.Inst{Label: label, At: k.place()})
		}
	}
	return l
}

// value makes what stands behind an operator: a literal that LD takes for that
// kind, or a variable.
func (k *maker) value(kind int) api.Expr {
	if k.r.Intn(2) == 0 {
		return k.lit(kind, kind == api.KDint)
	}
	return k.variable(kind, 2, false)
}

func (k *maker) other(in *api.Inst, acc int, inner bool) {
	name := func(s string) []api.Expr {
		return []api.Expr{{Op: api.ExVar, Name: s, At: k.place()}}
	}
	if acc == api.KBool && k.r.Intn(2) == 0 {
		in.Op = pick(k, "S", "R", "JMPC", "JMPCN", "CALC", "CALCN", "RETC", "RETCN")
	} else {
		in.Op = pick(k, "ST", "ST", "JMP", "CAL", "RET", "NOT", "STN")
	}
	if (in.Op == "NOT" || in.Op == "STN") && !slices.Contains(bits, acc) && !k.slip() || inner && len(in.Op) > 2 && in.Op != "NOT" && !k.slip() {
		in.Op = "ST"
	}
	switch in.Op {
	case "S", "R", "ST", "STN":
		in.E = []api.Expr{k.variable(acc, 2, true)}
	case "JMP", "JMPC", "JMPCN":
		in.E = name(pick(k, "a", "b", "c", "d", "e"))
	case "CAL", "CALC", "CALCN":
		block, args := k.blockCall(k.value)
		in.E, in.Args = name(block), args
	}
	if k.slip() {
		in.Op, in.Args = pick(k, "FOO", "LD(", "JMP", "CAL", "ADD", "NOT", "ADD(", ")", "ST", "RET"), nil
		in.E = name(pick(k, "a", "b", "vINT", "bTON", "z"))
	}
	if k.slip() {
		in.E, in.Args = nil, nil
	}
}

// operation makes one of the accumulator's; open: of each bracket the kind that
// is asked for behind it.
func (k *maker) operation(in *api.Inst, acc int, open []int) (int, []int) {
	var may []string
	for _, op := range slices.Sorted(maps.Keys(operations)) {
		if slices.Contains(operations[op], acc) || k.slip() {
			may = append(may, op)
		}
	}
	in.Op = pick(k, may...)
	result := after(in.Op, acc)
	if len(open) < 3 && k.r.Intn(4) == 0 && result == acc {
		in.Op += "("
		open = append(open, acc)
		if k.r.Intn(2) == 0 {
			in.E = []api.Expr{k.value(acc)}
			return acc, open
		}
		return 0, open
	}
	in.E = []api.Expr{k.lit(acc, true)}
	if k.r.Intn(2) == 0 {
		in.E[0] = k.variable(acc, 2, false)
	}
	return result, open
}

// told holds an answer against the model's.
func told(err error, f fault) bool {
	if f == nil {
		return err == nil
	}
	return wrongAt(err, f.At, f.Err)
}

// P16.1: expressions that are made up, held against the model; what is told is
// the same tree, with kinds that belong to one another.
func TestMadeUpExpressions(t *testing.T) {
	p, _ := statements(t, "")
	r := rand.New(rand.NewSource(16))
	right, wrong := 0, map[api.Errno]int{}
	for n := range 12000 {
		k := &maker{r: r, care: []int{10, 40, 200, 100000}[n%4]}
		want := r.Intn(12)
		e := k.expr(max(want, 1), r.Intn(5))
		kind, f := modelKind(e, want)
		x, err := Elab(p, e, want)
		got, err2 := Kind(p, e, want)
		if !told(err, f) || !told(err2, f) {
			t.Fatalf("P16.1: %+v, asked for %d: %v, %v; want %v", e, want, err, err2, f)
		}
		if f != nil {
			wrong[f.Err]++
			continue
		}
		right++
		if x.Kind != kind || got != kind || !reflect.DeepEqual(bare(x), bare(e)) {
			t.Fatalf("P16.1: %+v, asked for %d: %d, %+v; want %d", e, want, got, x, kind)
		}
		sound(t, x)
		if again, err := Elab(p, x, want); err != nil || !reflect.DeepEqual(again, x) {
			t.Fatalf("P16.1: %+v again: %+v, %v", x, again, err)
		}
	}
	for _, e := range []api.Errno{api.ErrKind, api.ErrName, api.ErrConst, api.ErrCall} {
		if wrong[e] < 200 {
			t.Errorf("only %d expressions with %v", wrong[e], e)
		}
	}
	if right < 5000 {
		t.Errorf("only %d expressions that are right", right)
	}
}

// bare tells a tree without its kinds, plain literals as one.
func bare(e api.Expr) api.Expr {
	if modelPlain(e) {
		return api.Expr{Op: api.ExLit, N: modelNumber(e), At: e.At}
	}
	e.Kind = 0
	var l []api.Expr
	for _, x := range e.L {
		l = append(l, bare(x))
	}
	e.L = l
	return e
}

// sound: each expression's kind is that of what its operator makes of operands
// of these kinds.
func sound(t *testing.T, x api.Expr) {
	t.Helper()
	var kinds []int
	for _, o := range x.L {
		sound(t, o)
		kinds = append(kinds, o.Kind)
	}
	ok := slices.Contains(scalars, x.Kind)
	switch from, to, conv := strings.Cut(x.Name, "_TO_"); {
	case x.Op == api.ExLit:
		ok = ok && x.N >= ranges[x.Kind][0] && x.N <= ranges[x.Kind][1]
	case x.Op == api.ExVar:
		ok = ok && (len(kinds) == 0 || kinds[0] != api.KBool && kinds[0] != api.KTime)
	case x.Op == api.ExCall && conv:
		ok = words[kinds[0]] == from && words[x.Kind] == to
	case x.Op == api.ExCall && x.Name == "SEL":
		ok = slices.Equal(kinds, []int{api.KBool, x.Kind, x.Kind})
	case x.Op == api.ExCall && (x.Name[0] == 'S' || x.Name[0] == 'R'):
		ok = slices.Equal(kinds, []int{x.Kind, api.KUint}) && slices.Contains(moved, x.Kind)
	case x.Op == api.ExCall:
		ok = len(slices.Compact(kinds)) == 1 && kinds[0] == x.Kind && slices.Contains(signatures[x.Name][0], x.Kind)
	case comparison(x.Op):
		ok = x.Kind == api.KBool && kinds[0] == kinds[1]
	default:
		ok = len(slices.Compact(kinds)) == 1 && kinds[0] == x.Kind && slices.Contains(mayStand[x.Op], x.Kind)
	}
	if !ok {
		t.Fatalf("P16.4: %+v", x)
	}
}

// P16.2, P16.4: statements that are made up, held against the model; those that
// are taken are run.
func TestMadeUpStatements(t *testing.T) {
	p, _ := statements(t, "")
	r := rand.New(rand.NewSource(162))
	right, wrong := 0, map[api.Errno]int{}
	for n := range 12000 {
		k := &maker{r: r, care: []int{10, 60, 300, 100000}[n%4]}
		p.Body = nil
		for range 1 + r.Intn(3) {
			p.Body = append(p.Body, k.stmt(r.Intn(4)))
		}
		f := within(p.Body, 0)()
		if err := Check(p); !told(err, f) {
			t.Fatalf("P16.2: %+v: %v; want %v", p.Body, err, f)
		}
		if f != nil {
			wrong[f.Err]++
			continue
		}
		right++
		(&machine{t: t, p: p, r: r, left: 60}).scan()
	}
	for _, e := range []api.Errno{api.ErrKind, api.ErrName, api.ErrConst, api.ErrCall, api.ErrTarget, api.ErrExit} {
		if wrong[e] < 40 {
			t.Errorf("only %d programs with %v", wrong[e], e)
		}
	}
	if right < 2000 {
		t.Errorf("only %d programs that are right", right)
	}
}

// P16.3, P16.4: instructions that are made up, held against the model; those
// that are taken are run.
func TestMadeUpInstructions(t *testing.T) {
	p, _ := statements(t, "")
	p.Il = true
	r := rand.New(rand.NewSource(163))
	right, wrong := 0, map[api.Errno]int{}
	for n := range 12000 {
		k := &maker{r: r, care: []int{20, 100, 500, 100000}[n%4]}
		p.Code = k.code()
		f := modelCode(p.Code)
		if err := Check(p); !told(err, f) {
			t.Fatalf("P16.3: %+v: %v; want %v", p.Code, err, f)
		}
		if f != nil {
			wrong[f.Err]++
			continue
		}
		right++
		(&machine{t: t, p: p, r: r, left: 60}).run()
	}
	for _, e := range []api.Errno{api.ErrKind, api.ErrName, api.ErrConst, api.ErrCall, api.ErrTarget, api.ErrLabel, api.ErrBracket, api.ErrOp} {
		if wrong[e] < 40 {
			t.Errorf("only %d programs with %v", wrong[e], e)
		}
	}
	if right < 2000 {
		t.Errorf("only %d programs that are right: %v", right, wrong)
	}
}

// machine: runs what was checked, with numbers that have their kinds with them,
// and fails where one is of another kind than it must be: P16.4.
type machine struct {
	t    *testing.T
	p    api.Prog
	r    *rand.Rand
	left int // statements and instructions that may be done yet
}

type tagged struct {
	kind int
	n    int64
}

// stop: a panic, by a fault: of the three that there may be.
type stop int

func (m *machine) wrong(what string, x any) { m.t.Fatalf("P16.4: %s: %+v in %+v", what, x, m.p) }

func (m *machine) step() {
	m.left--
	if m.left < 0 {
		panic(stop(api.FaultSteps))
	}
}

func (m *machine) guard() {
	if cause := recover(); cause != nil {
		if _, ok := cause.(stop); !ok {
			panic(cause)
		}
	}
}

func (m *machine) eval(e api.Expr, want int) tagged {
	x, err := Elab(m.p, e, want)
	if err != nil {
		m.wrong(err.Error(), e)
	}
	v := m.value(x)
	if want != 0 && v.kind != want {
		m.wrong("another kind", x)
	}
	return v
}

func (m *machine) value(x api.Expr) tagged {
	var l []tagged
	for _, o := range x.L {
		l = append(l, m.value(o))
	}
	v := tagged{kind: x.Kind}
	switch {
	case x.Op == api.ExLit:
		v.n = x.N
	case x.Op == api.ExVar:
		if len(l) > 0 && (l[0].n < -1 || l[0].n > 2) {
			panic(stop(api.FaultIndex))
		}
		if kind, f := modelVar(x); f != nil || kind != x.Kind {
			m.wrong("no such cell", x)
		}
		low, high := ranges[x.Kind][0], ranges[x.Kind][1]
		v.n = pick(&maker{r: m.r}, low, high, 0, 1, low+m.r.Int63n(high-low+1))
	case x.Op == api.ExCall:
		v.n = num.Wrap(x.Kind, m.r.Int63())
	case len(l) == 1:
		v.n = num.Neg(x.Kind, l[0].n)
	default:
		n, fault := num.Apply(x.Op, l[0].kind, l[0].n, l[1].n)
		if fault != api.FaultNone {
			panic(stop(fault))
		}
		v.n = n
	}
	sound(m.t, x)
	if v.n < ranges[v.kind][0] || v.n > ranges[v.kind][1] {
		m.wrong("out of its range", x)
	}
	return v
}

// assign puts a number of that kind into what may be assigned to.
func (m *machine) assign(e api.Expr, kind int) {
	what, _, _ := named(e.Name)
	if e.Op != api.ExVar || what == 'b' || what == 'i' || m.eval(e, 0).kind != kind {
		m.wrong("no target", e)
	}
}

func (m *machine) scan() {
	defer m.guard()
	m.statements(m.p.Body)
}

// statements tells how they end: 0, or by an EXIT, or a RETURN.
func (m *machine) statements(l []api.Stmt) int {
	for _, s := range l {
		m.step()
		end := 0
		switch s.Op {
		case api.StAssign:
			kind := m.eval(s.V, 0).kind
			m.assign(s.V, m.eval(s.E[0], kind).kind)
		case api.StIf, api.StCase:
			end = m.arms(s)
		case api.StFor:
			kind := m.eval(s.V, 0).kind
			for _, e := range s.E {
				m.assign(s.V, m.eval(e, kind).kind)
			}
			if end = m.statements(s.Body); end == api.StExit {
				end = 0
			}
		case api.StWhile, api.StRepeat:
			for end == 0 && m.eval(s.E[0], api.KBool).n == 1 {
				m.step()
				end = m.statements(s.Body)
			}
			if end == api.StExit {
				end = 0
			}
		case api.StCall:
			m.call(s.V.Name, s.Args)
		default:
			end = s.Op
		}
		if end != 0 {
			return end
		}
	}
	return 0
}

func (m *machine) arms(s api.Stmt) int {
	var which tagged
	if s.Op == api.StCase {
		which = m.eval(s.E[0], 0)
	}
	for _, a := range s.Arms {
		holds := len(a.E) == 0 && len(a.Labels) == 0
		for _, e := range a.E {
			holds = m.eval(e, api.KBool).n == 1
		}
		for _, pair := range a.Labels {
			holds = holds || m.eval(pair[0], which.kind).n <= which.n && which.n <= m.eval(pair[1], which.kind).n
		}
		if holds {
			return m.statements(a.Body)
		}
	}
	return 0
}

func (m *machine) call(name string, args []api.Arg) {
	what, _, block := named(name)
	if what != 'b' {
		m.wrong("no block", name)
	}
	for _, a := range args {
		kind, input := pinKind(block, a.Name)
		if !input || m.eval(a.E, kind).kind != kind {
			m.wrong("no input", a)
		}
	}
}

// run goes through instructions; the accumulator has its kind with it, and none
// at first.
func (m *machine) run() {
	defer m.guard()
	var acc tagged
	type waits struct {
		op  string
		acc tagged
	}
	var open []waits
	for i := 0; i < len(m.p.Code); i++ {
		in := m.p.Code[i]
		m.step()
		base, opens := strings.CutSuffix(in.Op, "(")
		away := strings.Contains(" JMP JMPC JMPCN CAL CALC CALCN RET RETC RETCN ", " "+in.Op+" ") && in.Op != ""
		if (in.Label != "" || away) && len(open) > 0 {
			m.wrong("within brackets", in)
		}
		switch {
		case in.Op == "LD" || in.Op == "LDN":
			acc = m.eval(in.E[0], 0)
			if in.Op == "LDN" && !slices.Contains(bits, acc.kind) {
				m.wrong("no bits", in)
			}
		case in.Op == "ST" || in.Op == "STN" || in.Op == "S" || in.Op == "R":
			m.assign(in.E[0], acc.kind)
			if len(in.Op) == 1 && acc.kind != api.KBool || in.Op == "STN" && !slices.Contains(bits, acc.kind) {
				m.wrong("no bits", in)
			}
		case in.Op == "NOT":
			if !slices.Contains(bits, acc.kind) {
				m.wrong("no bits", in)
			}
		case opens:
			open = append(open, waits{base, acc})
			acc = tagged{}
			if len(in.E) > 0 {
				acc = m.eval(in.E[0], 0)
			}
		case in.Op == ")":
			outer := open[len(open)-1]
			open = open[:len(open)-1]
			acc = m.apply(outer.op, outer.acc, acc)
		case operations[in.Op] != nil:
			acc = m.apply(in.Op, acc, m.eval(in.E[0], acc.kind))
		case in.Op != "":
			if strings.Contains(in.Op, "C") && in.Op != "CAL" && acc.kind != api.KBool {
				m.wrong("no condition", in)
			}
			if strings.HasPrefix(in.Op, "RET") && m.r.Intn(2) == 0 {
				return
			}
			if strings.HasPrefix(in.Op, "CAL") {
				m.call(in.E[0].Name, in.Args)
			}
			if strings.HasPrefix(in.Op, "JMP") && m.r.Intn(2) == 0 {
				i = slices.IndexFunc(m.p.Code, func(o api.Inst) bool { return o.Label == in.E[0].Name }) - 1
			}
		}
	}
	if len(open) > 0 {
		m.wrong("open brackets", open)
	}
}

func (m *machine) apply(op string, a, b tagged) tagged {
	if a.kind != b.kind || !slices.Contains(operations[op], a.kind) {
		m.wrong("another kind", []any{op, a, b})
	}
	if (op == "DIV" || op == "MOD") && b.n == 0 {
		panic(stop(api.FaultZero))
	}
	return tagged{kind: after(op, a.kind), n: num.Wrap(after(op, a.kind), a.n)}
}
