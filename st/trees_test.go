package st

import (
	"math/rand"
	"reflect"
	"slices"
	"strconv"
	"strings"
	"testing"

	"rung/api"
	"rung/lex"
)

// signs of operators, and how strongly they bind, by P13.1's rules.
var (
	signs    = map[int]string{api.ExMul: "*", api.ExDiv: "/", api.ExMod: "MOD", api.ExAdd: "+", api.ExSub: "-", api.ExLt: "<", api.ExGt: ">", api.ExLe: "<=", api.ExGe: ">=", api.ExEq: "=", api.ExNe: "<>", api.ExAnd: "AND", api.ExXor: "XOR", api.ExOr: "OR", api.ExNeg: "-", api.ExNot: "NOT"}
	strength = map[int]int{api.ExOr: 1, api.ExXor: 2, api.ExAnd: 3, api.ExLt: 4, api.ExGt: 4, api.ExLe: 4, api.ExGe: 4, api.ExEq: 4, api.ExNe: 4, api.ExAdd: 5, api.ExSub: 5, api.ExMul: 6, api.ExDiv: 6, api.ExMod: 6, api.ExNeg: 7, api.ExNot: 7, api.ExLit: 8, api.ExVar: 8, api.ExCall: 8}
	kindText = map[int]string{api.KBool: "BOOL", api.KSint: "SINT", api.KInt: "INT", api.KDint: "DINT", api.KUsint: "USINT", api.KUint: "UINT", api.KUdint: "UDINT", api.KByte: "BYTE", api.KWord: "WORD", api.KDword: "DWORD", api.KTime: "TIME"}
	names    = []string{"a", "b", "x1", "_y", "TON", "T", "If", "INT_TO_DINT", strings.Repeat("m", 32)}
	between  = []string{" ", "  ", "\t", "\r\n", "\n", "(**)", "(* ; *)", " (* END_IF\n *) ", "(*(*)", "(*)*)", "(* ' \" \xff *)"}
)

// writer makes trees up, writes them down, and tells the places of what it
// writes.
type writer struct {
	r      *rand.Rand
	b      strings.Builder
	tokens []string
	places []int
	below  bool // what is written next stands too deep
	deep   int  // the place of the first token that does; -1: there is none
}

func newWriter(r *rand.Rand) *writer { return &writer{r: r, deep: -1} }

// enter tells how deep that which begins with the next token stands.
func (w *writer) enter(depth int) { w.below = w.below || depth > 32 }

// put writes a token, and tells its place.
func (w *writer) put(token string) int {
	w.b.WriteString(w.gap(token))
	at := w.b.Len()
	w.b.WriteString(token)
	if w.below && w.deep < 0 {
		w.deep = at
	}
	w.tokens, w.places = append(w.tokens, token), append(w.places, at)
	return at
}

func (w *writer) puts(tokens string) {
	for _, s := range strings.Fields(tokens) {
		w.put(s)
	}
}

// gap tells what stands ahead of a token: nothing, now and then, where two
// tokens stay two without.
func (w *writer) gap(token string) string {
	if n := len(w.tokens); n > 0 && w.r.Intn(2) == 0 {
		last := w.tokens[n-1]
		l, e := lex.Tokens(last+token, false)
		if e == nil && len(l) == 3 && l[1].At == len(last) && (l[0].Tok == api.TokOp || l[1].Tok == api.TokOp) {
			return ""
		}
	}
	return between[w.r.Intn(len(between))]
}

func (w *writer) name() string { return names[w.r.Intn(len(names))] }

// lit makes a literal up; untyped ones alone may be asked for.
func (w *writer) lit(untyped bool) api.Expr {
	e := api.Expr{Op: api.ExLit, N: int64(w.r.Intn(100))}
	if !untyped && w.r.Intn(2) == 0 {
		e.Kind = 1 + w.r.Intn(11)
		if e.Kind == api.KBool {
			e.N %= 2
		}
		if (e.Kind == api.KInt || e.Kind == api.KTime) && w.r.Intn(2) == 0 {
			e.N = -e.N
		}
	}
	return e
}

// expr makes an expression up, with about that many parts within one another.
func (w *writer) expr(reach int) api.Expr {
	if reach <= 0 {
		if w.r.Intn(2) == 0 {
			return w.lit(false)
		}
		e := api.Expr{Op: api.ExVar, Name: w.name()}
		if w.r.Intn(3) == 0 {
			e.Field = w.name()
		}
		return e
	}
	inner, other := w.expr(reach-1), w.expr(w.r.Intn(reach+1)/4)
	switch op := 3 + w.r.Intn(20); {
	case op <= api.ExNot:
		return api.Expr{Op: op, L: []api.Expr{inner}}
	case op < api.ExCall && w.r.Intn(2) == 0:
		return api.Expr{Op: op, L: []api.Expr{other, inner}}
	case op < api.ExCall:
		return api.Expr{Op: op, L: []api.Expr{inner, other}}
	case op == api.ExCall:
		return api.Expr{Op: api.ExCall, Name: w.name(), L: [][]api.Expr{{inner}, {inner, other}, {other, inner, w.expr(0)}}[w.r.Intn(3)]}
	}
	return api.Expr{Op: api.ExVar, Name: w.name(), L: []api.Expr{inner}}
}

func literalText(e api.Expr) string {
	n := strconv.FormatInt(e.N, 10)
	switch {
	case e.Kind == api.KTime:
		return "T#" + n + "ms"
	case e.Kind != 0:
		return kindText[e.Kind] + "#" + n
	}
	return n
}

// write writes an expression, in brackets where it binds less than asked for,
// and elsewhere now and then; it tells it with its places.
func (w *writer) write(e api.Expr, least, depth int) api.Expr {
	w.enter(depth)
	own := strength[e.Op]
	if own < least || w.r.Intn(12) == 0 {
		w.put("(")
		e = w.write(e, 1, depth+1)
		w.put(")")
		return e
	}
	switch {
	case e.Op == api.ExLit:
		e.At = w.put(literalText(e))
	case e.Op == api.ExVar:
		e.At = w.put(e.Name)
		if e.Field != "" {
			w.puts(". " + e.Field)
		}
		if e.L != nil {
			w.put("[")
			e.L = []api.Expr{w.write(e.L[0], 1, depth+1)}
			w.put("]")
		}
	case e.Op == api.ExCall:
		e.At = w.put(e.Name)
		e.L = w.operands(e.L, depth+1)
	case own == 7:
		e.At = w.put(signs[e.Op])
		e.L = []api.Expr{w.write(e.L[0], 7, depth+1)}
	default:
		left := own
		if own == 4 {
			left++
		}
		l := []api.Expr{w.write(e.L[0], left, depth)}
		e.At = w.put(signs[e.Op])
		e.L = append(l, w.write(e.L[1], own+1, depth))
	}
	return e
}

func (w *writer) operands(list []api.Expr, depth int) []api.Expr {
	var out []api.Expr
	sign := "("
	for _, e := range list {
		w.put(sign)
		out = append(out, w.write(e, 1, depth))
		sign = ","
	}
	w.put(")")
	return out
}

// any makes an expression up, writes it, and tells it.
func (w *writer) any() api.Expr {
	reach := w.r.Intn(4)
	if w.r.Intn(200) == 0 {
		reach = 25 + w.r.Intn(12)
	}
	return w.write(w.expr(reach), 1, 1)
}

// signed writes a lit: a literal, or - and an int.
func (w *writer) signed(e api.Expr) api.Expr {
	if e.Kind == api.KTime || w.r.Intn(2) == 0 {
		e.At = w.put(literalText(e))
		return e
	}
	at := w.put("-")
	e.At = w.put(literalText(e))
	return api.Expr{Op: api.ExNeg, L: []api.Expr{e}, At: at}
}

// stmts makes up to four statements up, one of them with about that many within
// one another; empty ones aren't told.
func (w *writer) stmts(depth, reach int) []api.Stmt {
	var list []api.Stmt
	count := w.r.Intn(4)
	spine := w.r.Intn(count + 1)
	for i := range count + 1 {
		w.enter(depth)
		switch {
		case i == spine && reach > 0:
			list = append(list, w.compound(depth+1, reach-1))
		case w.r.Intn(3) == 0:
			w.put(";")
		case i != spine:
			list = append(list, w.simple())
		}
		w.below = false // where nothing was written, nothing stands
	}
	return list
}

func (w *writer) simple() api.Stmt {
	s := api.Stmt{}
	switch w.r.Intn(5) {
	case 0:
		s = api.Stmt{Op: api.StExit, At: w.put("EXIT")}
	case 1:
		s = api.Stmt{Op: api.StReturn, At: w.put("RETURN")}
	case 2:
		v := api.Expr{Op: api.ExVar, Name: w.name()}
		v.At = w.put(v.Name)
		s = api.Stmt{Op: api.StCall, V: v, At: v.At}
		sign := "("
		for range w.r.Intn(3) {
			w.put(sign)
			a := api.Arg{Name: w.name()}
			a.At = w.put(a.Name)
			w.put(":=")
			a.E = w.any()
			s.Args = append(s.Args, a)
			sign = ","
		}
		if sign == "(" {
			w.put("(")
		}
		w.put(")")
	default:
		v := api.Expr{Op: api.ExVar, Name: w.name()}
		v.At = w.put(v.Name)
		switch w.r.Intn(3) {
		case 0:
			v.Field = w.name()
			w.puts(". " + v.Field)
		case 1:
			w.put("[")
			v.L = []api.Expr{w.write(w.expr(w.r.Intn(3)), 1, 2)}
			w.put("]")
		}
		w.put(":=")
		s = api.Stmt{Op: api.StAssign, V: v, E: []api.Expr{w.any()}, At: v.At}
	}
	w.put(";")
	return s
}

func (w *writer) compound(depth, reach int) api.Stmt {
	s := api.Stmt{Op: api.StIf + w.r.Intn(5)}
	arms, spine := 1+w.r.Intn(3), w.r.Intn(4) // the last one, if there aren't so many
	within := func(i int) int {
		if i == min(spine, arms) {
			return reach
		}
		return 0
	}
	switch s.Op {
	case api.StIf:
		s.At = w.put("IF")
		for i := range arms {
			if i > 0 {
				w.put("ELSIF")
			}
			e := w.any()
			w.put("THEN")
			s.Arms = append(s.Arms, api.Arm{E: []api.Expr{e}, Body: w.stmts(depth, within(i))})
		}
		s.Arms = w.otherwise(s.Arms, depth, within(arms))
		w.puts("END_IF ;")
	case api.StCase:
		s.At = w.put("CASE")
		s.E = []api.Expr{w.any()}
		w.put("OF")
		for i := range arms {
			labels := w.labels(i == 0)
			s.Arms = append(s.Arms, api.Arm{Labels: labels, Body: w.stmts(depth, within(i))})
		}
		s.Arms = w.otherwise(s.Arms, depth, within(arms))
		w.puts("END_CASE ;")
	case api.StFor:
		s.At = w.put("FOR")
		s.V = api.Expr{Op: api.ExVar, Name: w.name()}
		s.V.At = w.put(s.V.Name)
		for _, word := range []string{":=", "TO", "BY"}[:2+w.r.Intn(2)] {
			w.put(word)
			s.E = append(s.E, w.any())
		}
		w.put("DO")
		s.Body = w.stmts(depth, reach)
		w.puts("END_FOR ;")
	case api.StWhile:
		s.At = w.put("WHILE")
		s.E = []api.Expr{w.any()}
		w.put("DO")
		s.Body = w.stmts(depth, reach)
		w.puts("END_WHILE ;")
	case api.StRepeat:
		s.At = w.put("REPEAT")
		s.Body = w.stmts(depth, reach)
		w.put("UNTIL")
		s.E = []api.Expr{w.any()}
		w.puts("END_REPEAT ;")
	}
	return s
}

func (w *writer) otherwise(arms []api.Arm, depth, reach int) []api.Arm {
	if reach > 0 || w.r.Intn(2) == 0 {
		w.put("ELSE")
		arms = append(arms, api.Arm{Body: w.stmts(depth, reach)})
	}
	return arms
}

// labels writes an arm's; the first arm's first one alone may be a time.
func (w *writer) labels(first bool) [][2]api.Expr {
	var list [][2]api.Expr
	for i := range 1 + w.r.Intn(3) {
		if i > 0 {
			w.put(",")
		}
		low := w.lit(i == 0 && !first)
		low = w.signed(low)
		high := low
		high.L = slices.Clone(low.L)
		if w.r.Intn(2) == 0 {
			w.put("..")
			high = w.signed(w.lit(false))
		}
		list = append(list, [2]api.Expr{low, high})
	}
	w.put(":")
	return list
}

func (w *writer) bound() int {
	n := w.r.Intn(3) * w.r.Intn(1<<32)
	n = min(n, 1<<32-1)
	if w.r.Intn(2) == 0 {
		w.put("-")
		w.put(strconv.Itoa(n))
		return -n
	}
	w.put(strconv.Itoa(n))
	return n
}

// variable writes a declaration; a field has a kind alone.
func (w *writer) variable(field, retain bool) api.Var {
	v := api.Var{Name: w.name(), Retain: retain}
	v.At = w.put(v.Name)
	if !field && w.r.Intn(3) == 0 {
		v.Addr = []string{"%IX0.0", "%QW63", "%MX15.7"}[w.r.Intn(3)]
		w.puts("AT " + v.Addr)
	}
	w.put(":")
	kind := 1 + w.r.Intn(11)
	switch w.r.Intn(3) {
	case 0:
		if field {
			v.T = api.Type{Kind: kind}
			w.put(kindText[kind])
			break
		}
		w.puts("ARRAY [")
		v.T = api.Type{Kind: api.KArray, Elem: kind}
		v.T.Lo = w.bound()
		w.put("..")
		v.T.Hi = w.bound()
		w.puts("] OF " + kindText[kind])
	case 1:
		if !field {
			v.T.Name = w.name()
			w.put(v.T.Name)
			break
		}
		fallthrough
	default:
		v.T = api.Type{Kind: kind}
		w.put(kindText[kind])
	}
	if w.r.Intn(2) == 0 {
		w.put(":=")
		v.Init = []api.Expr{w.signed(w.lit(false))}
	}
	w.put(";")
	return v
}

func (w *writer) program(reach int) api.Prog {
	var p api.Prog
	for range w.r.Intn(3) {
		w.put("TYPE")
		for range w.r.Intn(3) {
			s := api.Struct{Name: w.name()}
			s.At = w.put(s.Name)
			w.puts(": STRUCT")
			for range w.r.Intn(4) {
				s.Fields = append(s.Fields, w.variable(true, false))
			}
			w.puts("END_STRUCT ;")
			p.Structs = append(p.Structs, s)
		}
		w.put("END_TYPE")
	}
	p.Name = w.name()
	w.puts("PROGRAM " + p.Name)
	for range w.r.Intn(3) {
		w.put("VAR")
		retain := w.r.Intn(2) == 0
		if retain {
			w.put("RETAIN")
		}
		for range w.r.Intn(4) {
			p.Vars = append(p.Vars, w.variable(false, retain))
		}
		w.put("END_VAR")
	}
	p.Body = w.stmts(1, reach)
	w.put("END_PROGRAM")
	if w.r.Intn(2) == 0 {
		w.b.WriteString(w.gap(""))
	}
	return p
}

// apart: do two lists of an answer share memory, spare room with it?
func apart(v reflect.Value, seen map[uintptr]bool) bool {
	switch v.Kind() {
	case reflect.Struct:
		for i := range v.NumField() {
			if !apart(v.Field(i), seen) {
				return false
			}
		}
	case reflect.Array:
		for i := range v.Len() {
			if !apart(v.Index(i), seen) {
				return false
			}
		}
	case reflect.Slice:
		if v.Cap() == 0 {
			return true
		}
		room := v.Slice3(0, v.Cap(), v.Cap())
		for i := range room.Len() {
			at := room.Index(i).Addr().Pointer()
			if seen[at] {
				return false
			}
			seen[at] = true
		}
		for i := range v.Len() {
			if !apart(v.Index(i), seen) {
				return false
			}
		}
	}
	return true
}

// move changes all places of a tree.
func move(v reflect.Value, to map[int]int) {
	switch v.Kind() {
	case reflect.Struct:
		if e, ok := v.Interface().(api.Expr); ok && e.Op == 0 {
			return // there is none
		}
		for i := range v.NumField() {
			if v.Type().Field(i).Name == "At" {
				v.Field(i).SetInt(int64(to[int(v.Field(i).Int())]))
			} else {
				move(v.Field(i), to)
			}
		}
	case reflect.Array, reflect.Slice:
		for i := range v.Len() {
			move(v.Index(i), to)
		}
	}
}

// again writes the same tokens with other blanks and comments, and tells each
// place anew.
func (w *writer) again() (string, map[int]int) {
	other, to := newWriter(w.r), map[int]int{}
	for i, token := range w.tokens {
		to[w.places[i]] = other.put(token)
	}
	return other.b.String(), to
}

// P13.2, P13.3, P13.4: programs that are made up and written down are read as
// they were; with other blanks and comments, too; too deep ones are refused
// where they become so.
func TestAnyProgram(t *testing.T) {
	r := rand.New(rand.NewSource(132))
	right, deep := 0, 0
	for n := range 3000 {
		reach := r.Intn(4)
		if n%10 == 0 {
			reach = 28 + r.Intn(8)
		}
		w := newWriter(r)
		want := w.program(reach)
		text := w.b.String()
		if len(text) > api.MaxText {
			continue
		}
		got, e := Parse(text)
		if w.deep >= 0 {
			deep++
			if !wrong(e, w.deep, api.ErrDeep) || !reflect.DeepEqual(got, api.Prog{}) {
				t.Fatalf("P13.3: %s\n%v; want ErrDeep at %d", text, e, w.deep)
			}
			continue
		}
		right++
		if e != nil || !reflect.DeepEqual(got, want) {
			t.Fatalf("P13.2: %s\n%v\n%+v\n%+v", text, e, got, want)
		}
		if !apart(reflect.ValueOf(&got).Elem(), map[uintptr]bool{}) {
			t.Fatalf("P13.2: %s\nlists share memory", text)
		}
		other, to := w.again()
		if len(other) > api.MaxText {
			continue
		}
		move(reflect.ValueOf(&want).Elem(), to)
		if got, e = Parse(other); e != nil || !reflect.DeepEqual(got, want) {
			t.Fatalf("P13.4: %s\n%s\n%v\n%+v\n%+v", text, other, e, got, want)
		}
	}
	if right < 2000 || deep < 100 {
		t.Errorf("too few: %d right ones, %d too deep ones", right, deep)
	}
}

// P13.2, P13.3, P13.4: the same of expressions.
func TestAnyExpr(t *testing.T) {
	r := rand.New(rand.NewSource(133))
	right, deep := 0, 0
	for n := range 10000 {
		reach := r.Intn(7)
		if n%5 == 0 {
			reach = 30 + r.Intn(30)
		}
		w := newWriter(r)
		want := w.write(w.expr(reach), 1, 1)
		text := w.b.String()
		got, e := Expr(text)
		if w.deep >= 0 {
			deep++
			if !wrong(e, w.deep, api.ErrDeep) || !reflect.DeepEqual(got, api.Expr{}) {
				t.Fatalf("P13.3: %s\n%v; want ErrDeep at %d", text, e, w.deep)
			}
			continue
		}
		right++
		if e != nil || !reflect.DeepEqual(got, want) {
			t.Fatalf("P13.2: %s\n%v\n%+v\n%+v", text, e, got, want)
		}
		if !apart(reflect.ValueOf(&got).Elem(), map[uintptr]bool{}) {
			t.Fatalf("P13.2: %s\nlists share memory", text)
		}
		other, to := w.again()
		move(reflect.ValueOf(&want).Elem(), to)
		if got, e = Expr(other); e != nil || !reflect.DeepEqual(got, want) {
			t.Fatalf("P13.4: %s\n%s\n%v\n%+v\n%+v", text, other, e, got, want)
		}
	}
	if right < 5000 || deep < 500 {
		t.Errorf("too few: %d right ones, %d too deep ones", right, deep)
	}
}
