package lowil_test

import (
	"errors"
	"reflect"
	"slices"
	"strconv"
	"strings"
	"testing"

	"rung/api"
	"rung/check"
	"rung/code"
	"rung/il"
	"rung/ilsem"
	"rung/lowil"
	"rung/num"
	"rung/st"
	"rung/types"
	"rung/vm"
)

// refuses fails, unless an answer is this error, and nothing beside it.
func refuses(t *testing.T, what string, c api.Code, p api.Prog, err error, want api.PlaceError) {
	t.Helper()
	x, ok := err.(*api.PlaceError)
	if !ok || *x != want || !errors.Is(err, want.Err) || len(c.L)+len(c.Kinds) > 0 || !reflect.DeepEqual(p, api.Prog{}) {
		t.Errorf("P23.1: %.80q: %v, %d instructions, %q; want %v at %d", what, err, len(c.L), p.Name, want.Err, want.At)
	}
}

// holds fails, unless the code is such as P23.1 asks for; it tells a machine of it.
func holds(t *testing.T, c api.Code, p api.Prog) *vm.Vm {
	t.Helper()
	v, err := vm.New(c)
	if err != nil || code.Verify(c) != nil {
		t.Fatalf("P23.1: %v:\n%s", err, code.Text(c))
	}
	cells := types.Cells(p)
	if len(cells) != len(c.Kinds) {
		t.Fatalf("P23.1: %d kinds of %d cells", len(c.Kinds), len(cells))
	}
	for i, cell := range cells {
		if c.Kinds[i] != cell.Kind {
			t.Fatalf("P23.1: kind %d is %d, want %d", i, c.Kinds[i], cell.Kind)
		}
	}
	return v
}

// source tells a text of lines that strokes stand between.
func source(vars, lines string) string {
	return "PROGRAM p VAR " + vars + " END_VAR\n" + strings.ReplaceAll(lines, "|", "\n") + "\nEND_PROGRAM"
}

// built compiles a text that is right.
func built(t *testing.T, text string) (*vm.Vm, api.Prog) {
	t.Helper()
	c, p, err := lowil.Compile(text)
	if err != nil {
		t.Fatalf("P23.1: %.1500s: %v", text, err)
	}
	return holds(t, c, p), p
}

// answer: what a scan tells.
type answer struct {
	cells        []int64
	fault, steps int
}

func (a answer) is(b answer) bool {
	return slices.Equal(a.cells, b.cells) && a.fault == b.fault && a.steps == b.steps
}

// alike fails, unless a scan of the code is one of the program; it tells it.
func alike(t *testing.T, v *vm.Vm, p api.Prog, cells []int64, now int64, most int) answer {
	t.Helper()
	var got, want answer
	got.cells, got.fault, got.steps = v.Scan(cells, now, most)
	want.cells, want.fault, want.steps = ilsem.Scan(p, cells, now, most)
	if !got.is(want) {
		t.Fatalf("P23.2: %v\nof %v at %d, %d steps: %v; want %v", p.Code, cells, now, most, got, want)
	}
	return got
}

// P23.1: the code's kinds are the cells'; the program is as it was parsed.
func TestCompile(t *testing.T) {
	for _, text := range []string{
		"PROGRAM p\nEND_PROGRAM",
		"\n(* x *)\nPROGRAM p\nVAR x : INT := 3; END_VAR\n\n  go: LD x (* y *)\n\nADD( INT#2\n)\nST x\nJMP go\nend:\nEND_PROGRAM\n",
		"TYPE q : STRUCT x : INT := 4; f : BOOL; END_STRUCT; END_TYPE PROGRAM p VAR s : q; a : ARRAY[-1..1] OF UDINT; c : CTUD; END_VAR VAR RETAIN r : TIME; END_VAR VAR i AT %IX0.0 : BOOL; w AT %MW3 : WORD; END_VAR\nLD s.x\nGT 1\nS s.f\nANDN i\nCALC c(CU := i, PV := s.x)\nRETC\nLDN w\nST w\nEND_PROGRAM",
	} {
		c, p, err := lowil.Compile(text)
		want, _ := il.Parse(text)
		if err != nil || !reflect.DeepEqual(p, want) {
			t.Fatalf("P23.1: %s: %+v, %v", text, p, err)
		}
		holds(t, c, p)
		if lowered, err := lowil.Lower(want); err != nil || !reflect.DeepEqual(lowered, c) {
			t.Errorf("P23.1: %s: %v, %v", text, lowered, err)
		}
	}
}

// P23.1: il.Parse's error, then check.Check's, and nothing beside it.
func TestCompileErrors(t *testing.T) {
	for _, x := range []struct {
		text string
		want api.PlaceError
	}{
		{"", api.PlaceError{At: 0, Err: api.ErrParse}},
		{"PROGRAM p\nLD ?\nEND_PROGRAM", api.PlaceError{At: 13, Err: api.ErrLex}},
		{"PROGRAM p\nLD y\nLD 1 2\nEND_PROGRAM", api.PlaceError{At: 20, Err: api.ErrParse}},
		{"PROGRAM p\nLD y\nEND_PROGRAM\nx", api.PlaceError{At: 27, Err: api.ErrParse}},
		{"PROGRAM p\nLD INT#40000\nEND_PROGRAM", api.PlaceError{At: 13, Err: api.ErrConst}},
		{"PROGRAM p VAR x : INT; END_VAR\nx := 1;\nEND_PROGRAM", api.PlaceError{At: 33, Err: api.ErrParse}},
		{source("a : ARRAY[0..1] OF DINT;", "LD "+strings.Repeat("a[", 40)+"1"+strings.Repeat("]", 40)), api.PlaceError{At: 50 + 2*32, Err: api.ErrDeep}},
		{"PROGRAM p" + strings.Repeat("\n", api.MaxText), api.PlaceError{At: api.MaxText, Err: api.ErrLexBig}},
		{"PROGRAM p VAR x : INT := 99999; END_VAR\nLD y\nEND_PROGRAM", api.PlaceError{At: 14, Err: api.ErrInit}},
		{"PROGRAM p VAR x : INT; x : INT; END_VAR\nLD y\nEND_PROGRAM", api.PlaceError{At: 23, Err: api.ErrTwice}},
		{"PROGRAM p\nLD y\nEND_PROGRAM", api.PlaceError{At: 13, Err: api.ErrName}},
		{"PROGRAM p\nLD y\nFOO\nEND_PROGRAM", api.PlaceError{At: 15, Err: api.ErrOp}},
		{"PROGRAM p\nLD 1\nADD\nEND_PROGRAM", api.PlaceError{At: 15, Err: api.ErrOp}},
		{"PROGRAM p\nJMP a\nEND_PROGRAM", api.PlaceError{At: 10, Err: api.ErrLabel}},
		{"PROGRAM p\na: LD 1\na:\nEND_PROGRAM", api.PlaceError{At: 18, Err: api.ErrLabel}},
		{"PROGRAM p\nLD 1\nADD( 1\nEND_PROGRAM", api.PlaceError{At: 15, Err: api.ErrBracket}},
		{"PROGRAM p\nLD 1\nADD( 1\nRET\n)\nEND_PROGRAM", api.PlaceError{At: 22, Err: api.ErrBracket}},
		{"PROGRAM p\n  NOT\nEND_PROGRAM", api.PlaceError{At: 12, Err: api.ErrKind}},
		{"PROGRAM p\nLD 1\nADD TRUE\nEND_PROGRAM", api.PlaceError{At: 19, Err: api.ErrKind}},
		{"PROGRAM p VAR x : INT; END_VAR\nLD x\nADD 40000\nEND_PROGRAM", api.PlaceError{At: 40, Err: api.ErrConst}},
		{"PROGRAM p VAR c : CTU; END_VAR\nLD 1\nST c.PV\nEND_PROGRAM", api.PlaceError{At: 39, Err: api.ErrTarget}},
		{"PROGRAM p VAR c : CTU; END_VAR\nCAL c(CV := 1)\nEND_PROGRAM", api.PlaceError{At: 37, Err: api.ErrCall}},
	} {
		c, p, err := lowil.Compile(x.text)
		refuses(t, x.text, c, p, err, x.want)
		if p, err := il.Parse(x.text); err == nil {
			c, err := lowil.Lower(p)
			refuses(t, x.text, c, api.Prog{}, err, x.want)
			if !reflect.DeepEqual(err, check.Check(p)) {
				t.Errorf("P23.1: %q: %v; want %v", x.text, err, check.Check(p))
			}
		}
	}
}

// P23.1: a program in Structured Text is ErrKind at 0, if check takes it.
func TestLowerText(t *testing.T) {
	for _, x := range []struct {
		text string
		want api.PlaceError
	}{
		{"PROGRAM p END_PROGRAM", api.PlaceError{At: 0, Err: api.ErrKind}},
		{"PROGRAM p VAR x : INT; END_VAR x := x + 1; END_PROGRAM", api.PlaceError{At: 0, Err: api.ErrKind}},
		{"PROGRAM p VAR x : INT; END_VAR x := y; END_PROGRAM", api.PlaceError{At: 36, Err: api.ErrName}},
		{"PROGRAM p VAR x : INT; x : INT; END_VAR END_PROGRAM", api.PlaceError{At: 23, Err: api.ErrTwice}},
	} {
		p, err := st.Parse(x.text)
		if err != nil {
			t.Fatal(err)
		}
		// Instructions that it has, too, don't make it one in Instruction List.
		for _, p.Code = range [][]api.Inst{nil, {{Op: "LD", E: []api.Expr{{Op: api.ExLit}}}}, {{Op: "FOO", At: 3}}} {
			c, err := lowil.Lower(p)
			refuses(t, x.text, c, api.Prog{}, err, x.want)
		}
	}
	c, err := lowil.Lower(api.Prog{})
	refuses(t, "nothing", c, api.Prog{}, err, api.PlaceError{At: 0, Err: api.ErrKind})
	// Nor do statements one in Structured Text.
	p, _ := st.Parse("PROGRAM p VAR x : INT; END_VAR x := y; END_PROGRAM")
	p.Il = true
	if c, err = lowil.Lower(p); err != nil {
		t.Fatalf("P23.1: %v", err)
	}
	if got := alike(t, holds(t, c, p), p, []int64{7}, 0, 9); !got.is(answer{[]int64{7}, 0, 0}) {
		t.Errorf("P23.2: %v", got)
	}
}

// desk: the variables of the lives that are told by hand.
const desk = "x : INT; y : INT; b : BOOL; c : BOOL; w : BYTE; n : UDINT; m : TIME; a : ARRAY[2..4] OF INT; f : ARRAY[-1..0] OF BOOL; q : CTU;"

// numbers tells the desk's cells; text names those that aren't 0: "x=5 b=1".
func numbers(t *testing.T, text string) []int64 {
	t.Helper()
	l := make([]int64, 20)
	for _, s := range strings.Fields(text) {
		name, number, _ := strings.Cut(s, "=")
		at := slices.Index([]string{"x", "y", "b", "c", "w", "n", "m", "a2", "a3", "a4", "f-1", "f0", "CU", "R", "PV", "Q", "CV", "k1", "k2", "k3"}, name)
		n, err := strconv.ParseInt(number, 10, 64)
		if err != nil || at < 0 {
			t.Fatal(text, err)
		}
		l[at] = n
	}
	return l
}

// life: a program's lines, the desk ahead of a scan, and behind it, its fault,
// its steps.
type life struct {
	lines, desk, want string
	fault, steps      int
}

// lives are told by hand, so that they hang on no other layer.
var lives = []life{
	{"", "x=40000 b=2 n=-1", "x=-25536 b=1 n=4294967295", 0, 0},
	{"a:||b:|", "x=1", "x=1", 0, 0},
	{"LD 1|DIV 0", "", "", api.FaultZero, 2},
	{"LD 1", "", "", 0, 1},
	{"LD x|LD y|LD b", "", "", 0, 3},

	{"LD x|ADD y|ST x|SUB 1|ST y", "x=32767 y=2", "x=-32767 y=-32768", 0, 5},
	{"LD x|MUL 3|SUB y|ST x", "x=5 y=1", "x=14 y=1", 0, 4},
	{"LD x|DIV y|ST x|MOD 2|ST y", "x=-7 y=2", "x=-3 y=-1", 0, 5},
	{"LD x|MOD y|ST x", "x=-7 y=2", "x=-1 y=2", 0, 3},
	{"LD n|SUB 1|ST n|GT 4000000000|ST b", "", "n=4294967295 b=1", 0, 5},
	{"LD m|ADD T#1s|SUB T#1ms|ST m|GE T#999ms|STN b", "b=1", "m=999", 0, 6},
	{"LD w|AND 15|ST w", "w=90", "w=10", 0, 3},
	{"LD w|ANDN 15|ST w", "w=90", "w=80", 0, 3},
	{"LD w|ORN 254|XORN 15|STN w", "w=16", "w=30", 0, 4},
	{"LDN w|XOR 1|ST w|NOT|STN w|LDN b|ST c", "w=3", "w=253 c=1", 0, 7},
	{"LD b|OR c|NOT|STN b|XOR TRUE|ST c", "c=1", "b=1 c=1", 0, 6},
	{"LD x|LT y|ST b|LE c|ST c|EQ b|NE c|STN b", "x=1 y=2 c=1", "x=1 y=2 b=1 c=1", 0, 8},
	{"LD 2|MUL( 3|ADD 4|)|EQ 14|ST b", "", "b=1", 0, 6},
	{"LD x|SUB( INT#10|SUB(|LD y|SUB 2|)|)|ST x|ADD x|ST y", "x=1 y=5", "x=-6 y=-12", 0, 10},
	{"LD b|ANDN( c|NOT|)|ORN(|LD x|GT( y|ADD 1|)|)|ST b", "b=1 c=1 x=3 y=2", "b=1 c=1 x=3 y=2", 0, 11},
	{"LD b|XORN( c|)|ST b|LD x|ADD( y|ST x|LD INT#7|)|ST y", "x=1 y=2", "b=1 x=2 y=8", 0, 10},
	{"LD x|ADD( b|ST c|LD y|)|ST x", "b=1 x=3 y=4", "b=1 c=1 x=7 y=4", 0, 6},
	{"LD x|DIV( y|SUB 2|)|ST x", "x=9 y=2", "x=9 y=2", api.FaultZero, 4},
	{"LD x|ADD(|LD INT#1|DIV y|ST y|)|ST x", "x=9", "x=9", api.FaultZero, 4},

	{"LD a[2]|ADD a[x]|ST a[y]|ST a[4]", "a2=5 a3=6 x=3 y=2", "a2=11 a3=6 a4=11 x=3 y=2", 0, 4},
	{"LD INT#7|ST a[x]", "x=1", "x=1", api.FaultIndex, 2},
	{"LD INT#7|ST a[x]|ST a[5]|ST x", "x=4", "a4=7 x=4", api.FaultIndex, 3},
	{"LD a[x]|ST y", "x=5 y=1", "x=5 y=1", api.FaultIndex, 1},
	{"LD a[1]|ST y", "y=1", "y=1", api.FaultIndex, 1},
	{"LD x|DIV a[5]", "", "", api.FaultIndex, 2},
	{"LD x|DIV y|ST a[5]", "", "", api.FaultZero, 2},
	{"LD x|ST a[1 / y]", "x=3", "x=3", api.FaultZero, 2},
	{"LD a[a[a[x]]]|ST a[a[2]]", "x=2 a2=3 a3=4 a4=9", "x=2 a2=3 a3=9 a4=9", 0, 2},
	{"LD x|ADD( a[5]|)|ST x", "x=3", "x=3", api.FaultIndex, 2},

	{"LD b|S c|R b|STN f[0]", "b=1", "c=1", 0, 4},
	{"LD b|R c|S b|STN f[0]", "c=1", "c=1 f0=1", 0, 4},
	{"LD b|S f[x]|R f[y]|ST c", "b=1 x=-1 f0=1", "b=1 x=-1 f-1=1 c=1", 0, 4},
	{"LD b|S f[x]|R f[y]|STN c", "x=-1 f-1=1 f0=1", "x=-1 f-1=1 f0=1 c=1", 0, 4},
	{"LD b|S f[1]|ST c", "", "", api.FaultIndex, 2},
	{"LD b|R f[x]|ST c", "x=1", "x=1", api.FaultIndex, 2},
	{"LD b|STN f[x]|ST f[-1]|ST c", "b=1 f0=1", "b=1 f-1=1 c=1", 0, 4},
	{"LD b|STN f[x]", "x=-1", "x=-1 f-1=1", 0, 2},
	{"LD b|S f[x]", "b=1 x=-1", "b=1 x=-1 f-1=1", 0, 2},

	{"JMP a|LD x|ST y|a:", "x=5", "x=5", 0, 1},
	{"LD x|JMP a|ST y|a:", "x=5", "x=5", 0, 2},
	{"LD b|JMPC a|LD INT#1|ST x|a:", "b=1", "b=1", 0, 2},
	{"LD b|JMPC a|LD INT#1|ST x|a:", "", "x=1", 0, 4},
	{"LD b|JMPCN a|LD INT#1|ST x|a: LD INT#2|ST y", "b=1", "b=1 x=1 y=2", 0, 6},
	{"LD b|JMPCN a|LD INT#1|ST x|a: LD INT#2|ST y", "", "y=2", 0, 4},
	{"LD b|JMPC a|STN c|a:", "", "c=1", 0, 3},
	{"LD b|JMPCN a|ST c|JMPC a|a:", "b=1", "b=1 c=1", 0, 4},
	{"LD b|JMPCN a|NOT|JMPC a|AND c|STN b|a:", "b=1 c=1", "b=1 c=1", 0, 6},
	{"a: LD x|ADD 1|ST x|LT 5|JMPC a|LD x|ST y", "", "x=5 y=5", 0, 27},
	{"a:|LD x|ADD 1|ST x|GE 3|JMPCN a|LD b|JMPC e|LD INT#9|ST y|e:", "", "x=3 y=9", 0, 19},
	{"JMP a|c: LD x|ADD 1|ST x|JMP e|b: LD x|MUL 10|ST x|JMP c|a: LD INT#7|ST x|JMP b|e:", "", "x=71", 0, 12},
	{"LD x|EQ 0|JMPC a|JMP b|a:|b:|LD INT#1|ST y", "", "y=1", 0, 5},
	{"LD b|JMPC b|LD c|JMPC c|LD INT#1|ST x|JMP e|b: LD INT#2|ST x|JMP e|c: LD INT#3|ST x|e:", "c=1", "c=1 x=3", 0, 6},

	{"LD INT#1|ST x|RET|ST y", "", "x=1", 0, 3},
	{"RET|LD x|DIV 0", "", "", 0, 1},
	{"LD b|RETC|STN c", "b=1", "b=1", 0, 2},
	{"LD b|RETC|STN c", "", "c=1", 0, 3},
	{"LD b|RETCN|ST c|RETC|LD INT#1|ST x", "b=1", "b=1 c=1", 0, 4},
	{"LD b|RETCN|ST c", "", "", 0, 2},
	{"LD b|RETC", "b=1", "b=1", 0, 2},
	{"LD b|RETC|a: LD INT#1|ST x", "", "x=1", 0, 4},

	{"CAL q(CU := TRUE, PV := 1)|LD q.CV|ST x", "", "CU=1 PV=1 Q=1 CV=1 k1=1 x=1", 0, 3},
	{"CAL q(PV := q.CV, R := q.Q)", "PV=2 Q=1 CV=7", "R=1 PV=7", 0, 1},
	{"CAL q(R := q.CU, CU := b)", "PV=2 Q=1 CV=7 b=1", "CU=1 PV=2 Q=1 CV=8 k1=1 b=1", 0, 1},
	{"LD b|CALC q(CU := TRUE)|STN c", "b=1", "b=1 CU=1 Q=1 CV=1 k1=1", 0, 3},
	{"LD b|CALC q(CU := TRUE)|STN c", "", "c=1", 0, 3},
	{"LD b|CALCN q(CU := TRUE)|STN c", "", "CU=1 Q=1 CV=1 k1=1 c=1", 0, 3},
	{"LD b|CALCN q(CU := TRUE)|STN c", "b=1", "b=1", 0, 3},
	{"LD b|CALC q(CU := TRUE)", "b=1", "b=1 CU=1 Q=1 CV=1 k1=1", 0, 2},
	{"LD b|CALCN q(CU := TRUE)|LD x", "b=1", "b=1", 0, 3},
	{"LD x|CAL q(CU := TRUE)|ST y", "x=5", "x=5 y=5 CU=1 Q=1 CV=1 k1=1", 0, 3},
	{"CAL q(CU := TRUE, PV := a[1], R := TRUE)", "PV=2 Q=1 CV=7", "CU=1 PV=2 Q=1 CV=7", api.FaultIndex, 1},
	{"LD b|CALC q(PV := a[x], CU := f[1 / y])", "b=1 x=3 a3=5", "b=1 x=3 a3=5 PV=5", api.FaultZero, 2},
}

// P23.1, P23.2: the code of small programs does what they say, whatever the
// number of steps that may be done.
func TestLives(t *testing.T) {
	for _, x := range lives {
		v, p := built(t, source(desk, x.lines))
		cells, want := numbers(t, x.desk), answer{numbers(t, x.want), x.fault, x.steps}
		if got := alike(t, v, p, cells, 0, 99); !got.is(want) {
			t.Errorf("P23.2: %s: %v; want %v", x.lines, got, want)
		}
		for _, most := range []int{-1 << 62, -1, x.steps + 1, 1 << 62} {
			alike(t, v, p, cells, 0, most)
		}
		for most := range x.steps + 1 {
			got := alike(t, v, p, cells, 0, most)
			if most < x.steps && (got.fault != api.FaultSteps || got.steps != most) {
				t.Errorf("P23.2: %s, %d steps: %v", x.lines, most, got)
			}
		}
	}
}

const comparisons = "GT GE EQ NE LE LT"

// operators tells what is done with numbers of a kind, and by what expressions
// do it; those with N have -1 times that.
func operators(kind int) map[string]int {
	l := map[string]int{"GT": api.ExGt, "GE": api.ExGe, "EQ": api.ExEq, "NE": api.ExNe, "LE": api.ExLe, "LT": api.ExLt}
	switch kind {
	case api.KBool, api.KByte, api.KWord, api.KDword:
		l["AND"], l["OR"], l["XOR"] = api.ExAnd, api.ExOr, api.ExXor
		l["ANDN"], l["ORN"], l["XORN"] = -api.ExAnd, -api.ExOr, -api.ExXor
	case api.KTime:
		l["ADD"], l["SUB"] = api.ExAdd, api.ExSub
	default:
		l["ADD"], l["SUB"], l["MUL"], l["DIV"], l["MOD"] = api.ExAdd, api.ExSub, api.ExMul, api.ExDiv, api.ExMod
	}
	return l
}

// P23.2: each operator, of each kind, of numbers at its edges, in each form.
func TestOperators(t *testing.T) {
	for kind := api.KBool; kind <= api.KTime; kind++ {
		low, high := num.Range(kind)
		all := []int64{low, low + 1, -1, 0, 1, 2, 3, 7, high / 2, high - 1, high}
		all = slices.DeleteFunc(all, func(n int64) bool { return n < low || n > high })
		for name, op := range operators(kind) {
			result := kind
			if strings.Contains(comparisons, name) {
				result = api.KBool
			}
			vars := strings.NewReplacer("$", num.Name(kind), "!", num.Name(result)).Replace("x : $; y : $; r : !; s : !; l : ARRAY[1..1] OF !;")
			for _, form := range []string{"LD x|! y|ST r|ST l[1]|LD r|ST s", "LD x|!( y|)|ST l[1]|ST s|ST r", "LD x|!( x|LD y|)|ST r|ST s|ST l[1]", "LD x|!(|LD y|)|ST r|ST s|ST l[1]"} {
				v, p := built(t, source(vars, strings.ReplaceAll(form, "!", name)))
				for _, a := range all {
					for _, b := range all {
						second := b
						if op < 0 {
							second = num.Not(kind, b)
						}
						n, fault := num.Apply(max(op, -op), kind, a, second)
						got := alike(t, v, p, []int64{a, b}, 0, 9)
						if !slices.Equal(got.cells, []int64{a, b, n, n, n}) || got.fault != fault {
							t.Fatalf("P23.2: %s of %d: %d, %d: %v; want %d, %d", name, kind, a, b, got, n, fault)
						}
					}
				}
			}
		}
	}
}

// P23.2: cells that are missing, too many, or of no kind's range.
func TestCells(t *testing.T) {
	v, p := built(t, source("b : BOOL; s : SINT; u : USINT; w : WORD; a : ARRAY[0..1] OF UINT; d : TIME; c : CTU;",
		"LDN b|ST b|CALC c(CU := b, PV := -3)|LD s|ADD 1|ST s|LDN w|ST w|LD u|SUB 1|ST u|LD a[0]|ST a[1]|LD d|SUB T#1ms|ST d"))
	for _, n := range []int64{0, 1, -1, 2, 127, 128, 255, 256, 40000, -1 << 31, 1 << 31, 1<<32 + 1, -1 << 63, 1<<63 - 1} {
		given := slices.Repeat([]int64{n}, 20)
		for many := range given {
			for _, most := range []int{0, 1, 5, 99} {
				alike(t, v, p, given[:many], n, most)
			}
		}
	}
}

// P23.2: scan by scan, with the clock, also where it wraps round.
func TestClock(t *testing.T) {
	v, p := built(t, source("n : TON; f : TOF; g : TP; r : R_TRIG; x : INT;",
		"LD x|ADD 1|ST x|MOD 7|GT 1|JMPC on|CAL n(IN := FALSE)|JMP go|on: CAL n(IN := TRUE, PT := T#20ms)|go: CAL f(IN := n.Q, PT := T#15ms)|CAL g(IN := f.Q, PT := T#11ms)|CAL r(CLK := g.Q)"))
	for _, begin := range []int64{0, -50, 1<<31 - 60, 1<<32 - 60, 1 << 40, -1 << 63, 1<<63 - 300} {
		var cells []int64
		held := 0
		for k := range int64(40) {
			cells = alike(t, v, p, cells, begin+5*k, 99).cells
			held += int(cells[2] + cells[9] + cells[16] + cells[22]) // Q of each
		}
		if held < 25 {
			t.Errorf("P23.2: from %d on: the blocks told Q but %d times", begin, held)
		}
	}
}
