package il

import (
	"math/rand"
	"reflect"
	"strconv"
	"strings"
	"testing"

	"rung/api"
	"rung/lex"
	"rung/st"
)

// Texts that trees are made up of, and what may stand between tokens.
var (
	names   = []string{"a", "b", "x1", "_y", "LD", "JMP", "CAL", "N", "end_program", strings.Repeat("m", 32)}
	plain   = []string{"LD", "LDN", "ST", "ADD", "ANDN", "AND", "OR", "XOR", "NOT", "MOD", "S", "RET", "foo", "GT"}
	jumps   = []string{"JMP", "JMPC", "JMPCN"}
	calls   = []string{"CAL", "CALC", "CALCN"}
	types   = []string{"TYPE END_TYPE", "TYPE s : STRUCT x : INT := - 3 ; y : TIME := T#1s ; END_STRUCT ; END_TYPE", "TYPE a : STRUCT END_STRUCT ; b : STRUCT LD : BOOL ; END_STRUCT ; END_TYPE"}
	vars    = []string{"VAR END_VAR", "VAR RETAIN a : INT ; END_VAR", "VAR a AT %QW0 : INT := 5 ; t : TON ; END_VAR", "VAR l : ARRAY [ - 2 .. 7 ] OF BYTE ; q : p := INT#1 ; END_VAR"}
	between = []string{" ", "  ", "\t", "\r", "(**)", "(* ; *)", " (* END_PROGRAM\n *) ", "(*(*)", "(*)*)", "(* \n\n *)"}
)

func pick(r *rand.Rand, list []string) string { return list[r.Intn(len(list))] }

// writer makes programs up, writes them down, and tells the places of what it
// writes.
type writer struct {
	r      *rand.Rand
	b      strings.Builder
	tokens []string
	lined  []bool // lines may stand ahead of the token
	places []int
}

// put writes a token, and tells its place. An empty line may stand behind a
// line's end.
func (w *writer) put(token string, lined bool) int {
	gap := w.gap(token)
	if lined && w.r.Intn(3) == 0 {
		gap += "\n" + strings.Repeat("\n", w.r.Intn(2)) + pick(w.r, between)
	}
	w.b.WriteString(gap)
	at := w.b.Len()
	w.b.WriteString(token)
	if token == "\n" && w.r.Intn(3) == 0 {
		w.b.WriteString(pick(w.r, between) + "\n" + strings.Repeat("\n", w.r.Intn(2)))
	}
	w.tokens, w.lined, w.places = append(w.tokens, token), append(w.lined, lined), append(w.places, at)
	return at
}

// gap tells what stands ahead of a token: nothing, now and then, where two
// tokens stay two without.
func (w *writer) gap(token string) string {
	if n := len(w.tokens); n > 0 && w.r.Intn(2) == 0 {
		last := w.tokens[n-1]
		l, e := lex.Tokens(last+token, true)
		if e == nil && len(l) == 3 && l[1].At == len(last) && (l[0].Tok == api.TokOp || l[1].Tok == api.TokOp) {
			return ""
		}
	}
	return pick(w.r, between)
}

func (w *writer) on(token string) int { return w.put(token, false) }

func (w *writer) declare(tokens string) {
	for _, token := range strings.Fields(tokens) {
		w.put(token, true)
	}
}

func (w *writer) number() api.Expr {
	n := w.r.Intn(100)
	switch s := strconv.Itoa(n); w.r.Intn(3) {
	case 0:
		return api.Expr{Op: api.ExLit, Kind: api.KInt, N: int64(-n), At: w.on("INT#-" + s)}
	default:
		return api.Expr{Op: api.ExLit, N: int64(n), At: w.on(s)}
	}
}

func (w *writer) name() api.Expr {
	name := pick(w.r, names)
	return api.Expr{Op: api.ExVar, Name: name, At: w.on(name)}
}

// variable writes one that may have a field, or an index, with about that many
// expressions within one another.
func (w *writer) variable(reach int) api.Expr {
	e := w.name()
	switch {
	case reach > 0:
		w.on("[")
		e.L = []api.Expr{w.expr(reach - 1)}
		w.on("]")
	case w.r.Intn(3) == 0:
		w.on(".")
		e.Field = pick(w.r, names)
		w.on(e.Field)
	}
	return e
}

// expr writes an expression, in brackets if it has two operands.
func (w *writer) expr(reach int) api.Expr {
	switch kind := w.r.Intn(5); {
	case reach <= 0 && kind < 2:
		return w.number()
	case reach <= 0 || kind < 2:
		return w.variable(reach)
	case kind == 2:
		e := api.Expr{Op: api.ExNeg, At: w.on("-")}
		e.L = []api.Expr{w.expr(reach - 1)}
		return e
	case kind == 3:
		e := w.name()
		e.Op = api.ExCall
		w.on("(")
		e.L = []api.Expr{w.expr(reach - 1)}
		w.on(",")
		e.L = append(e.L, w.expr(0))
		w.on(")")
		return e
	}
	w.on("(")
	left := w.expr(reach - 1)
	e := api.Expr{Op: api.ExAnd, At: w.on("AND")}
	e.L = []api.Expr{left, w.expr(0)}
	w.on(")")
	return e
}

// value writes a literal or a variable.
func (w *writer) value() api.Expr {
	switch w.r.Intn(5) {
	case 0:
		return w.number()
	case 1:
		e := api.Expr{Op: api.ExNeg, At: w.on("-")}
		e.L = []api.Expr{w.number()}
		return e
	case 2:
		return api.Expr{Op: api.ExLit, Kind: api.KTime, N: -60000, At: w.on("T#-1m")}
	}
	return w.variable(w.r.Intn(6) * w.r.Intn(2))
}

func (w *writer) args() []api.Arg {
	var list []api.Arg
	w.on("(")
	for i := range w.r.Intn(4) {
		if i > 0 {
			w.on(",")
		}
		name := w.name()
		w.on(":=")
		list = append(list, api.Arg{Name: name.Name, E: w.value(), At: name.At})
	}
	w.on(")")
	return list
}

// operation writes an operator and, now and then, its operand.
func (w *writer) operation(in *api.Inst) int {
	bare := w.r.Intn(4) == 0
	kind := w.r.Intn(5)
	switch kind {
	case 0:
		in.Op = pick(w.r, calls)
	case 1:
		in.Op = pick(w.r, jumps)
	default:
		in.Op = pick(w.r, plain)
	}
	at := w.on(in.Op)
	if kind > 2 {
		w.on("(")
		in.Op += "("
	}
	switch {
	case bare:
	case kind == 0:
		in.E = []api.Expr{w.name()}
		in.Args = w.args()
	case kind == 1:
		in.E = []api.Expr{w.name()}
	default:
		in.E = []api.Expr{w.value()}
	}
	return at
}

func (w *writer) line() api.Inst {
	var in api.Inst
	labelled := w.r.Intn(4) == 0
	switch {
	case labelled:
		in.Label = pick(w.r, names)
		in.At = w.on(in.Label)
		w.on(":")
		if w.r.Intn(3) > 0 {
			w.operation(&in)
		}
	case w.r.Intn(8) == 0:
		in.Op = ")"
		in.At = w.on(")")
	default:
		in.At = w.operation(&in)
	}
	w.on("\n")
	return in
}

// program writes one; its declarations are told by st, of what stands ahead of
// the instructions.
func (w *writer) program(t *testing.T) api.Prog {
	for range w.r.Intn(3) {
		w.declare(pick(w.r, types))
	}
	w.declare("PROGRAM")
	w.on(pick(w.r, names))
	for range w.r.Intn(3) {
		w.declare(pick(w.r, vars))
	}
	p, e := st.Parse(w.b.String() + " END_PROGRAM")
	if e != nil {
		t.Fatalf("%s: %v", w.b.String(), e)
	}
	p.Il = true
	w.on("\n")
	for range w.r.Intn(9) {
		p.Code = append(p.Code, w.line())
	}
	w.on("END_PROGRAM")
	w.b.WriteString(pick(w.r, []string{"", " ", "\n", "(* *)\n\n \n"}))
	return p
}

// again writes the same tokens with other blanks, comments and empty lines, and
// tells each place anew.
func (w *writer) again() (string, map[int]int) {
	other, to := &writer{r: w.r}, map[int]int{}
	for i, token := range w.tokens {
		to[w.places[i]] = other.put(token, w.lined[i])
	}
	return other.b.String(), to
}

// apart: are there no two lists of an answer that share memory, spare room with
// it?
func apart(v reflect.Value, seen map[uintptr]bool) bool {
	ok := true
	switch v.Kind() {
	case reflect.Struct:
		for i := range v.NumField() {
			ok = ok && apart(v.Field(i), seen)
		}
	case reflect.Slice:
		room := v.Slice3(0, v.Cap(), v.Cap())
		for i := range room.Len() {
			at := room.Index(i).Addr().Pointer()
			ok = ok && !seen[at]
			seen[at] = true
		}
		for i := range v.Len() {
			ok = ok && apart(v.Index(i), seen)
		}
	}
	return ok
}

// moveAll changes all places of a program.
func moveAll(v reflect.Value, to map[int]int) {
	switch v.Kind() {
	case reflect.Struct:
		for i := range v.NumField() {
			if v.Type().Field(i).Name == "At" {
				v.Field(i).SetInt(int64(to[int(v.Field(i).Int())]))
			} else {
				moveAll(v.Field(i), to)
			}
		}
	case reflect.Slice:
		for i := range v.Len() {
			moveAll(v.Index(i), to)
		}
	}
}

// P14.1, P14.2, P14.4: programs that are made up and written down are read as
// they were; with other blanks, comments and empty lines, too.
func TestAnyProgram(t *testing.T) {
	r := rand.New(rand.NewSource(142))
	insts := 0
	for range 4000 {
		w := &writer{r: r}
		want := w.program(t)
		text := w.b.String()
		got, e := Parse(text)
		if e != nil || !reflect.DeepEqual(got, want) {
			t.Fatalf("P14.2: %s\n%v\n%+v\n%+v", text, e, got, want)
		}
		if !apart(reflect.ValueOf(&got).Elem(), map[uintptr]bool{}) {
			t.Fatalf("P14.2: %s\nlists share memory", text)
		}
		insts += len(got.Code)
		other, to := w.again()
		moveAll(reflect.ValueOf(&want).Elem(), to)
		if got, e = Parse(other); e != nil || !reflect.DeepEqual(got, want) {
			t.Fatalf("P14.4: %s\n%s\n%v\n%+v\n%+v", text, other, e, got, want)
		}
	}
	if insts < 10000 {
		t.Errorf("too few: %d instructions", insts)
	}
}
