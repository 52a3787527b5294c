package il

import (
	"math/rand"
	"reflect"
	"slices"
	"strings"
	"testing"

	"rung/api"
)

// Trees, written short: at a place, a variable, a number, what is made of
// operands; lists of them.
func vr(at int, name string) api.Expr { return api.Expr{Op: api.ExVar, Name: name, At: at} }
func num(at int, n int64) api.Expr    { return api.Expr{Op: api.ExLit, N: n, At: at} }
func lit(at, kind int, n int64) api.Expr {
	return api.Expr{Op: api.ExLit, Kind: kind, N: n, At: at}
}
func of(at, op int, l ...api.Expr) api.Expr { return api.Expr{Op: op, L: l, At: at} }
func el(at int, name string, index api.Expr) api.Expr {
	return api.Expr{Op: api.ExVar, Name: name, L: []api.Expr{index}, At: at}
}
func field(at int, name, of string) api.Expr {
	return api.Expr{Op: api.ExVar, Name: name, Field: of, At: at}
}
func list(l ...api.Expr) []api.Expr { return l }

// P14.2: lines as instructions, with their places; each stands at 10, behind a
// head.
func TestLineTrees(t *testing.T) {
	for _, x := range []struct {
		s    string
		want api.Inst
	}{
		{"LD a", api.Inst{Op: "LD", E: list(vr(13, "a"))}},
		{"go: LD a", api.Inst{Label: "go", Op: "LD", E: list(vr(17, "a"))}},
		{"go :LD a", api.Inst{Label: "go", Op: "LD", E: list(vr(17, "a"))}},
		{"go:", api.Inst{Label: "go"}}, {"LD:", api.Inst{Label: "LD"}}, {"CAL: CAL", api.Inst{Label: "CAL", Op: "CAL"}}, {"JMP:JMP JMP", api.Inst{Label: "JMP", Op: "JMP", E: list(vr(18, "JMP"))}},
		{"LD", api.Inst{Op: "LD"}}, {"FOO", api.Inst{Op: "FOO"}}, {"foo 1", api.Inst{Op: "foo", E: list(num(14, 1))}}, {"RET", api.Inst{Op: "RET"}}, {"RET RET", api.Inst{Op: "RET", E: list(vr(14, "RET"))}},
		{"LD 5", api.Inst{Op: "LD", E: list(num(13, 5))}}, {"LD INT#-5", api.Inst{Op: "LD", E: list(lit(13, api.KInt, -5))}}, {"LD TRUE", api.Inst{Op: "LD", E: list(lit(13, api.KBool, 1))}}, {"LD T#1s", api.Inst{Op: "LD", E: list(lit(13, api.KTime, 1000))}}, {"LD T#-1s", api.Inst{Op: "LD", E: list(lit(13, api.KTime, -1000))}},
		{"LD - 5", api.Inst{Op: "LD", E: list(of(13, api.ExNeg, num(15, 5)))}}, {"LD-INT#5", api.Inst{Op: "LD", E: list(of(12, api.ExNeg, lit(13, api.KInt, 5)))}}, {"LD -TRUE", api.Inst{Op: "LD", E: list(of(13, api.ExNeg, lit(14, api.KBool, 1)))}},
		{"LD a.b", api.Inst{Op: "LD", E: list(field(13, "a", "b"))}}, {"LD a . b", api.Inst{Op: "LD", E: list(field(13, "a", "b"))}}, {"LD a[1]", api.Inst{Op: "LD", E: list(el(13, "a", num(15, 1)))}}, {"LD a [ b[2] ]", api.Inst{Op: "LD", E: list(el(13, "a", el(17, "b", num(19, 2))))}},
		{"LD a[b + c.d]", api.Inst{Op: "LD", E: list(el(13, "a", of(17, api.ExAdd, vr(15, "b"), field(19, "c", "d"))))}},
		{"LD a[f(b[1], - T#1ms)]", api.Inst{Op: "LD", E: list(el(13, "a", api.Expr{Op: api.ExCall, Name: "f", L: list(el(17, "b", num(19, 1)), of(23, api.ExNeg, lit(25, api.KTime, 1))), At: 15}))}},
		{"LD a[(b[1])]", api.Inst{Op: "LD", E: list(el(13, "a", el(16, "b", num(18, 1))))}},
		{"ADD(", api.Inst{Op: "ADD("}}, {"ADD (", api.Inst{Op: "ADD("}}, {"ADD (* x *) ( 1", api.Inst{Op: "ADD(", E: list(num(24, 1))}}, {"ADD(a", api.Inst{Op: "ADD(", E: list(vr(14, "a"))}}, {"ADD(-2", api.Inst{Op: "ADD(", E: list(of(14, api.ExNeg, num(15, 2)))}},
		{"AND", api.Inst{Op: "AND"}}, {"AND a", api.Inst{Op: "AND", E: list(vr(14, "a"))}}, {"AND N", api.Inst{Op: "AND", E: list(vr(14, "N"))}}, {"ANDN a", api.Inst{Op: "ANDN", E: list(vr(15, "a"))}}, {"AND(", api.Inst{Op: "AND("}}, {"AND( a", api.Inst{Op: "AND(", E: list(vr(15, "a"))}}, {"ANDN(a", api.Inst{Op: "ANDN(", E: list(vr(15, "a"))}},
		{"OR a", api.Inst{Op: "OR", E: list(vr(13, "a"))}}, {"OR(a", api.Inst{Op: "OR(", E: list(vr(13, "a"))}}, {"XOR(", api.Inst{Op: "XOR("}}, {"XOR a", api.Inst{Op: "XOR", E: list(vr(14, "a"))}}, {"NOT", api.Inst{Op: "NOT"}}, {"NOT a", api.Inst{Op: "NOT", E: list(vr(14, "a"))}}, {"NOT(", api.Inst{Op: "NOT("}}, {"MOD 2", api.Inst{Op: "MOD", E: list(num(14, 2))}}, {"MOD(2", api.Inst{Op: "MOD(", E: list(num(14, 2))}},
		{")", api.Inst{Op: ")"}},
		{"JMP", api.Inst{Op: "JMP"}}, {"JMP a", api.Inst{Op: "JMP", E: list(vr(14, "a"))}}, {"JMPC a", api.Inst{Op: "JMPC", E: list(vr(15, "a"))}}, {"JMPCN a", api.Inst{Op: "JMPCN", E: list(vr(16, "a"))}}, {"JMP( 1", api.Inst{Op: "JMP(", E: list(num(15, 1))}}, {"JMPX 1", api.Inst{Op: "JMPX", E: list(num(15, 1))}},
		{"CAL", api.Inst{Op: "CAL"}}, {"CAL t()", api.Inst{Op: "CAL", E: list(vr(14, "t"))}}, {"CALC t ( )", api.Inst{Op: "CALC", E: list(vr(15, "t"))}}, {"CALCN t()", api.Inst{Op: "CALCN", E: list(vr(16, "t"))}}, {"CALX 1", api.Inst{Op: "CALX", E: list(num(15, 1))}},
		{"CAL t(IN := a, PT:=-5)", api.Inst{Op: "CAL", E: list(vr(14, "t")), Args: []api.Arg{{Name: "IN", E: vr(22, "a"), At: 16}, {Name: "PT", E: of(29, api.ExNeg, num(30, 5)), At: 25}}}},
		{"x: CALC t(IN := a[i + 1])", api.Inst{Label: "x", Op: "CALC", E: list(vr(18, "t")), Args: []api.Arg{{Name: "IN", E: el(26, "a", of(30, api.ExAdd, vr(28, "i"), num(32, 1))), At: 20}}}},
		{"CALCN t(IN := q.x, IN := T#1s)", api.Inst{Op: "CALCN", E: list(vr(16, "t")), Args: []api.Arg{{Name: "IN", E: field(24, "q", "x"), At: 18}, {Name: "IN", E: lit(35, api.KTime, 1000), At: 29}}}},
	} {
		x.want.At = 10
		p, e := Parse("PROGRAM p\n" + x.s + "\nEND_PROGRAM")
		want := api.Prog{Name: "p", Il: true, Code: []api.Inst{x.want}}
		if e != nil || !reflect.DeepEqual(p, want) {
			t.Errorf("P14.2: %s: %+v, %v; want %+v", x.s, p, e, want)
		}
	}
}

// P14.1, P14.2: a whole program: declarations with lines between their tokens,
// instructions in order.
func TestProgramTree(t *testing.T) {
	const text = "\n(* x *)\nTYPE s :\nSTRUCT x : INT := -\n3;\nEND_STRUCT; e : STRUCT END_STRUCT ; END_TYPE\nTYPE END_TYPE\n PROGRAM p\nVAR\n a AT %QW1 : INT;\nb : ARRAY [-2\n..\n3] OF BYTE; END_VAR VAR RETAIN\nt : TON := T#1s; END_VAR\n\n" +
		"go: LD a (* ; *)\n\n \t\n(* *)\r\n\tADD( 2\n)\nend:\nEND_PROGRAM\n \n"
	at := func(s string) int { return strings.Index(text, s) }
	want := api.Prog{Name: "p", Il: true,
		Structs: []api.Struct{{Name: "s", At: at("s :"), Fields: []api.Var{{Name: "x", T: api.Type{Kind: api.KInt}, Init: list(of(at("-\n"), api.ExNeg, num(at("3;"), 3))), At: at("x :")}}}, {Name: "e", At: at("e :")}},
		Vars:    []api.Var{{Name: "a", T: api.Type{Kind: api.KInt}, Addr: "%QW1", At: at("a AT")}, {Name: "b", T: api.Type{Kind: api.KArray, Lo: -2, Hi: 3, Elem: api.KByte}, At: at("b :")}, {Name: "t", T: api.Type{Name: "TON"}, Retain: true, Init: list(lit(at("T#1s"), api.KTime, 1000)), At: at("t : TON")}},
		Code:    []api.Inst{{Label: "go", Op: "LD", E: list(vr(at("a (*"), "a")), At: at("go:")}, {Op: "ADD(", E: list(num(at("2\n)"), 2)), At: at("ADD(")}, {Op: ")", At: at(")\nend")}, {Label: "end", At: at("end:")}},
	}
	if p, e := Parse(text); e != nil || !reflect.DeepEqual(p, want) {
		t.Errorf("P14.2: %v\n%+v\n%+v", e, p, want)
	}
	p, e := Parse("PROGRAM p\ngo: LD a\nADD( b\n)\nEND_PROGRAM")
	if e != nil || len(p.Code) != 3 {
		t.Errorf("P14.2: the chapter's example: %v, %v", p, e)
	}
	for _, s := range []string{"PROGRAM p\nEND_PROGRAM", "\n\nPROGRAM p\n\n\nEND_PROGRAM\n\n", " \r\n (* \n *) PROGRAM (*\n*) p (* *)\n \t\n(**)\n END_PROGRAM (* *)\r\n"} {
		if p, e := Parse(s); e != nil || !reflect.DeepEqual(p, api.Prog{Name: "p", Il: true}) {
			t.Errorf("P14.2: %q: %+v, %v", s, p, e)
		}
	}
}

// P14.1: wrong texts; a ^, which isn't part of them, stands ahead of the token
// that may not stand there.
func TestWrong(t *testing.T) {
	for _, marked := range []string{
		"^", "\n\n^", "(* *) ^LD a\n", "PROGRAM^", "PROGRAM p^", "PROGRAM p\n^", "PROGRAM p\nLD a^", "PROGRAM p\nLD a\n^", "PROGRAM ^5\nEND_PROGRAM", "PROGRAM ^IF\nEND_PROGRAM",
		"PROGRAM^\np\nEND_PROGRAM", "PROGRAM p ^LD 1\nEND_PROGRAM", "PROGRAM p ^END_PROGRAM", "PROGRAM p ^PROGRAM q\nEND_PROGRAM", "PROGRAM p^; \nEND_PROGRAM",
		"PROGRAM p\nEND_PROGRAM ^x", "PROGRAM p\nEND_PROGRAM\n\n^x", "PROGRAM p\nEND_PROGRAM\n^END_PROGRAM", "PROGRAM p\nEND_PROGRAM^;",
		"PROGRAM p\nVAR a : INT; END_VAR ^LD a\nEND_PROGRAM", "PROGRAM p\nVAR END_VAR ^END_PROGRAM", "PROGRAM p\nLD a\n^VAR END_VAR\nEND_PROGRAM", "PROGRAM p\n^TYPE END_TYPE\nEND_PROGRAM", "^VAR END_VAR PROGRAM p\nEND_PROGRAM",
		"TYPE END_TYPE\nTYPE x : ^INT; END_TYPE PROGRAM p\nEND_PROGRAM", "TYPE x :\n\n^; END_TYPE LD 1\n", "TYPE s : STRUCT ^END_TYPE PROGRAM\n", "TYPE s : STRUCT^", "TYPE s\n\n^", "TYPE END_TYPE ^x\nPROGRAM p\n", "TYPE ^) END_TYPE x", "TYPE ^TYPE END_TYPE PROGRAM p\n",
		"PROGRAM p VAR a : INT;\nLD ^a\nEND_PROGRAM", "PROGRAM p VAR a : INT; ^VAR b : INT; END_VAR\nEND_PROGRAM", "PROGRAM p VAR a : INT := 1 ^+ 2; END_VAR x", "PROGRAM p VAR a : INT^", "PROGRAM p VAR a : INT\n\n;\n^", "PROGRAM p VAR RETAIN\n^RETAIN END_VAR\nEND_PROGRAM", "PROGRAM p VAR ^END_PROGRAM END_VAR\n", "PROGRAM p VAR a : ARRAY[^INT#1..2] OF INT; END_VAR\nEND_PROGRAM", "PROGRAM p VAR a : INT := - ^T#1s; END_VAR\nEND_PROGRAM",
		"PROGRAM p VAR a : INT; END_VAR ^x := 1; END_PROGRAM", "PROGRAM p VAR ^END_TYPE END_VAR\nEND_PROGRAM",
		"PROGRAM p\nLD 1 ^END_PROGRAM", "PROGRAM p\nLD a ^b\nEND_PROGRAM", "PROGRAM p\nLD a ^+ 1\nEND_PROGRAM", "PROGRAM p\nLD a^, b\nEND_PROGRAM", "PROGRAM p\nLD a^;\nEND_PROGRAM", "PROGRAM p\nLD 1 ^2\nEND_PROGRAM", "PROGRAM p\nLD a ^LD b\nEND_PROGRAM",
		"PROGRAM p\n^IF a\nEND_PROGRAM", "PROGRAM p\n^1 LD\nEND_PROGRAM", "PROGRAM p\n^INT a\nEND_PROGRAM", "PROGRAM p\n^TRUE\nEND_PROGRAM", "PROGRAM p\n^%IX0.0\nEND_PROGRAM", "PROGRAM p\n^RETURN\nEND_PROGRAM", "PROGRAM p\n^;\nEND_PROGRAM", "PROGRAM p\n^: LD a\nEND_PROGRAM", "PROGRAM p\n^(\nEND_PROGRAM", "PROGRAM p\n^[\nEND_PROGRAM", "PROGRAM p\n^END_VAR\nEND_PROGRAM",
		"PROGRAM p\na: b^: LD 1\nEND_PROGRAM", "PROGRAM p\nAND^: LD 1\nEND_PROGRAM", "PROGRAM p\nx: ^END_PROGRAM\n", "PROGRAM p\nx: ^)\nEND_PROGRAM", "PROGRAM p\nx:\n^: LD\nEND_PROGRAM", "PROGRAM p\nx: ^5\nEND_PROGRAM", "PROGRAM p\nx^:= 5\nEND_PROGRAM", "PROGRAM p\nx\n^: LD a\nEND_PROGRAM",
		"PROGRAM p\n) ^1\nEND_PROGRAM", "PROGRAM p\n) ^)\nEND_PROGRAM", "PROGRAM p\n)^(\nEND_PROGRAM", "PROGRAM p\n)^x:\nEND_PROGRAM", "PROGRAM p\nLD a ^)\nEND_PROGRAM",
		"PROGRAM p\nLD (1^)\nEND_PROGRAM", "PROGRAM p\nADD( ^)\nEND_PROGRAM", "PROGRAM p\nADD( a ^)\nEND_PROGRAM", "PROGRAM p\nADD(^(\nEND_PROGRAM", "PROGRAM p\nADD( a ^b\nEND_PROGRAM", "PROGRAM p\nADD\n^( a\nEND_PROGRAM", "PROGRAM p\nAND N ^a\nEND_PROGRAM", "PROGRAM p\nADD( b^(\nEND_PROGRAM",
		"PROGRAM p\nLD ^+1\nEND_PROGRAM", "PROGRAM p\nLD - ^a\nEND_PROGRAM", "PROGRAM p\nLD - ^T#1s\nEND_PROGRAM", "PROGRAM p\nLD - ^- 1\nEND_PROGRAM", "PROGRAM p\nLD -^\n1\nEND_PROGRAM", "PROGRAM p\nLD - ^(1)\nEND_PROGRAM", "PROGRAM p\nLD ^NOT a\nEND_PROGRAM", "PROGRAM p\nLD f^(a)\nEND_PROGRAM", "PROGRAM p\nLD ^%IX0.0\nEND_PROGRAM", "PROGRAM p\nLD ^INT\nEND_PROGRAM", "PROGRAM p\nLD 1 ^+ 2\nEND_PROGRAM", "PROGRAM p\nLD ^:= 2\nEND_PROGRAM",
		"PROGRAM p\nLD a.^1\nEND_PROGRAM", "PROGRAM p\nLD a.^\nb\nEND_PROGRAM", "PROGRAM p\nLD a\n^.b\nEND_PROGRAM", "PROGRAM p\nLD a.b^.c\nEND_PROGRAM", "PROGRAM p\nLD a.b^[1]\nEND_PROGRAM", "PROGRAM p\nLD a.^IF\nEND_PROGRAM",
		"PROGRAM p\nLD a[1^\nEND_PROGRAM", "PROGRAM p\nLD a[1^", "PROGRAM p\nLD a[1 (* *) ^\nEND_PROGRAM", "PROGRAM p\nLD a[^\n1]\nEND_PROGRAM", "PROGRAM p\nLD a[^]\nEND_PROGRAM", "PROGRAM p\nLD a[1]^]\nEND_PROGRAM", "PROGRAM p\nLD a[1]^[2]\nEND_PROGRAM", "PROGRAM p\nLD a[1]^.b\nEND_PROGRAM", "PROGRAM p\nLD a[1] ^+ 2\nEND_PROGRAM", "PROGRAM p\nLD a[1^, 2]\nEND_PROGRAM", "PROGRAM p\nLD a[(1^]\nEND_PROGRAM", "PROGRAM p\nLD a[1^)]\nEND_PROGRAM", "PROGRAM p\nLD a[b[1]^\nEND_PROGRAM", "PROGRAM p\nLD a[b < c ^< d]\nEND_PROGRAM", "PROGRAM p\nLD a[f(^)]\nEND_PROGRAM", "PROGRAM p\nLD a[b ^c]\nEND_PROGRAM", "PROGRAM p\nLD a[b ^:= 1]\nEND_PROGRAM", "PROGRAM p\nLD a[^%IX0.0]\nEND_PROGRAM", "PROGRAM p\nLD a[b^\n]\nEND_PROGRAM", "PROGRAM p\nLD a\n^[b]\nEND_PROGRAM",
		"PROGRAM p\nJMP ^1\nEND_PROGRAM", "PROGRAM p\nJMPC ^-1\nEND_PROGRAM", "PROGRAM p\nJMPCN ^T#1s\nEND_PROGRAM", "PROGRAM p\nJMP a^.b\nEND_PROGRAM", "PROGRAM p\nJMPC a^[1]\nEND_PROGRAM", "PROGRAM p\nJMPCN a ^b\nEND_PROGRAM", "PROGRAM p\nJMP ^IF\nEND_PROGRAM", "PROGRAM p\nJMP a^:\nEND_PROGRAM", "PROGRAM p\nJMP a^()\nEND_PROGRAM",
		"PROGRAM p\nCAL t^\nEND_PROGRAM", "PROGRAM p\nCALC t^", "PROGRAM p\nCAL ^1\nEND_PROGRAM", "PROGRAM p\nCAL ^()\nEND_PROGRAM", "PROGRAM p\nCALC ^()\nEND_PROGRAM", "PROGRAM p\nCALCN^( a\nEND_PROGRAM", "PROGRAM p\nCALCN t ^a\nEND_PROGRAM", "PROGRAM p\nCAL t^.x()\nEND_PROGRAM", "PROGRAM p\nCAL t^[1]()\nEND_PROGRAM", "PROGRAM p\nCAL t() ^1\nEND_PROGRAM",
		"PROGRAM p\nCAL t(IN^)\nEND_PROGRAM", "PROGRAM p\nCAL t(a^\nEND_PROGRAM", "PROGRAM p\nCAL t(^\n)\nEND_PROGRAM", "PROGRAM p\nCAL t(^1)\nEND_PROGRAM", "PROGRAM p\nCAL t(IN ^= 1)\nEND_PROGRAM", "PROGRAM p\nCAL t(IN := ^)\nEND_PROGRAM", "PROGRAM p\nCAL t(IN := a ^+ 1)\nEND_PROGRAM", "PROGRAM p\nCAL t(IN := ^(a))\nEND_PROGRAM", "PROGRAM p\nCAL t(IN := a,^)\nEND_PROGRAM", "PROGRAM p\nCAL t(^, IN := a)\nEND_PROGRAM", "PROGRAM p\nCAL t(IN := a ^PT := b)\nEND_PROGRAM", "PROGRAM p\nCAL t(IN := a,^\nPT := b)\nEND_PROGRAM", "PROGRAM p\nCAL t(IN := a[1^, PT := b)\nEND_PROGRAM", "PROGRAM p\nCAL t(IN := a[1], PT := b[^)\nEND_PROGRAM", "PROGRAM p\nCAL t(IN := ^NOT a)\nEND_PROGRAM", "PROGRAM p\nCAL t(Q ^=> a)\nEND_PROGRAM", "PROGRAM p\nCAL t(IN := t^(IN := 1))\nEND_PROGRAM", "PROGRAM p\nCAL t(IN := a^",
	} {
		before, behind, _ := strings.Cut(marked, "^")
		if e := errorOf(t, before+behind); !wrong(e, len(before), api.ErrParse) {
			t.Errorf("P14.1: %q: %v", marked, e)
		}
	}
}

// P14.1: lex's errors, wherever they are, stand ahead of all others.
func TestLexErrors(t *testing.T) {
	for _, x := range []struct {
		marked string
		want   api.Errno
	}{
		{"PROGRAM p\nLD ^?\nEND_PROGRAM", api.ErrLex}, {"PROGRAM p\nLD ^(* \nEND_PROGRAM", api.ErrLex}, {"IF IF ^?", api.ErrLex}, {"PROGRAM p\nLD a[ ^16#\nEND_PROGRAM", api.ErrLex},
		{"PROGRAM p\nLD ^INT#40000\nEND_PROGRAM", api.ErrConst}, {"PROGRAM p\nLD ^4294967296\nEND_PROGRAM", api.ErrLexBig}, {"PROGRAM p\nLD ^%IX99.0\nEND_PROGRAM", api.ErrAddr}, {"TYPE ; VAR a AT ^%QW64", api.ErrAddr},
		{"PROGRAM p\n^" + strings.Repeat("n", 33) + ":\nEND_PROGRAM", api.ErrLexBig}, {"PROGRAM p\nLD a\nEND_PROGRAM\n^#", api.ErrLex},
		{strings.Repeat("\n", 65536) + "^\n", api.ErrLexBig}, {strings.Repeat("?", 65536) + "^?", api.ErrLexBig},
	} {
		before, behind, _ := strings.Cut(x.marked, "^")
		if e := errorOf(t, before+behind); !wrong(e, len(before), x.want) {
			t.Errorf("P14.1: %.60q: %v; want %v", x.marked, e, x.want)
		}
	}
}

// P14.3: just the chapter's operators, in order of their bytes; each answer is
// memory of its own.
func TestOps(t *testing.T) {
	want := strings.Split("), ADD, ADD(, AND, AND(, ANDN, ANDN(, CAL, CALC, CALCN, DIV, DIV(, EQ, EQ(, GE, GE(, GT, GT(, JMP, JMPC, JMPCN, LD, LDN, LE, LE(, LT, LT(, MOD, MOD(, MUL, MUL(, NE, NE(, NOT, OR, OR(, ORN, ORN(, R, RET, RETC, RETCN, S, ST, STN, SUB, SUB(, XOR, XOR(, XORN, XORN(", ", ")
	ops := Ops()
	if !slices.Equal(ops, want) || !slices.IsSorted(ops) {
		t.Errorf("P14.3: %v; want %v", ops, want)
	}
	for i := range ops {
		ops[i] = "x"
	}
	if again := Ops(); !slices.Equal(again, want) {
		t.Errorf("P14.3: again: %v", again)
	}
}

// P14.1, P14.3: each operator is read as it is told, and so is any other name.
func TestOpsRead(t *testing.T) {
	for _, op := range append(Ops(), "FOO", "ld", "LD(", "X_1(", "_", "T", "ST(", "N") {
		p, e := Parse("PROGRAM p\n" + op + "\nEND_PROGRAM")
		if want := []api.Inst{{Op: op, At: 10}}; e != nil || !reflect.DeepEqual(p.Code, want) {
			t.Errorf("P14.3: %s: %+v, %v", op, p.Code, e)
		}
	}
}

// P14.1: st's ErrDeep: an operand, or an argument's, is 1 deep, its index 2; an
// error further left stands ahead of it, as it stands ahead of those further
// right.
func TestDeep(t *testing.T) {
	for _, x := range [][3]string{{"a[", "b", "]"}, {"(", "b", ")"}, {"-", "5", ""}, {"NOT ", "b", ""}, {"f(", "b", ")"}} {
		deep := func(n int) string {
			return "a[" + strings.Repeat(x[0], n) + x[1] + strings.Repeat(x[2], n) + "]"
		}
		for _, line := range [][2]string{{"LD ", ""}, {"x: ADD( ", ""}, {"CAL t(IN := ", ")"}, {"CAL t(PT := 1, IN := ", ")"}} {
			text := "PROGRAM p\n" + line[0] + deep(30) + line[1] + "\nEND_PROGRAM"
			if e := errorOf(t, text); e != nil {
				t.Errorf("P14.1: %q: %v", text, e)
			}
			ahead := "PROGRAM p\n" + line[0]
			at := len(ahead) + 2 + 31*len(x[0])
			for _, behind := range []string{deep(31) + line[1] + "\nEND_PROGRAM", deep(31) + " + ", deep(31)[:2+31*len(x[0])+1], deep(40) + "\n))"} {
				if e := errorOf(t, ahead+behind); !wrong(e, at, api.ErrDeep) {
					t.Errorf("P14.1: %q: %v; want ErrDeep at %d", ahead+behind, e, at)
				}
			}
			if e := errorOf(t, "PROGRAM p\n) )\n"+ahead+deep(31)); !wrong(e, 12, api.ErrParse) {
				t.Errorf("P14.1: %v", e)
			}
		}
	}
}

// P14.1: texts of MaxText bytes, whatever they are full of.
func TestFullText(t *testing.T) {
	fill := func(begin, s, end string) string {
		b := begin + strings.Repeat(s, (65536-len(begin)-len(end))/len(s))
		return b + strings.Repeat(" ", 65536-len(b)-len(end)) + end
	}
	for _, x := range []struct {
		text  string
		at    int // -1: no error
		want  api.Errno
		insts int
	}{
		{fill("PROGRAM p\n", "LD a\n", "END_PROGRAM"), -1, 0, 13103},
		{fill("PROGRAM p\n", "\n", "END_PROGRAM"), -1, 0, 0}, {fill("", "\n", "PROGRAM p\nEND_PROGRAM"), -1, 0, 0}, {fill("PROGRAM p\nEND_PROGRAM", "\n", ""), -1, 0, 0}, {fill("PROGRAM p", "\n", "VAR END_VAR\nEND_PROGRAM"), -1, 0, 0},
		{fill("PROGRAM p\n", "a:\n", "END_PROGRAM"), -1, 0, 21838}, {fill("PROGRAM p\n", ")\n", "END_PROGRAM"), -1, 0, 32757},
		{fill("PROGRAM p\nCAL t(a:=b", ",a:=b", ")\nEND_PROGRAM"), -1, 0, 1}, {fill("PROGRAM p\nLD a[b", "+b", "]\nEND_PROGRAM"), -1, 0, 1}, {fill("PROGRAM p\n", "LD a[b+a[c]]\n", "END_PROGRAM"), -1, 0, 5039},
		{fill("PROGRAM p VAR ", "a:a;", "END_VAR\nEND_PROGRAM"), -1, 0, 0}, {fill("PROGRAM p ", "VAR END_VAR ", "\nEND_PROGRAM"), -1, 0, 0}, {fill("PROGRAM p\n", "VAR END_VAR\n", "\nEND_PROGRAM"), -1, 0, 0}, {fill("", "TYPE END_TYPE\n", "PROGRAM p\nEND_PROGRAM"), -1, 0, 0},
		{fill("PROGRAM p VAR ", "a:a;", ""), 65536, api.ErrParse, 0}, {fill("PROGRAM p VAR ", "a:a;", "END_VAR"), 65536, api.ErrParse, 0}, {fill("PROGRAM p VAR ", "a:a;", "END_VAR\nLD a\n"), 65536, api.ErrParse, 0}, {fill("PROGRAM p VAR ", "a:a;", "END_VAR\n) )\n"), 65534, api.ErrParse, 0}, {fill("PROGRAM p VAR ", "a:a;", "a END_VAR"), 65529, api.ErrParse, 0}, {fill("PROGRAM p VAR ", "a:a;", "a END_VAR\n"), 65528, api.ErrParse, 0}, {fill("PROGRAM p VAR ", "a:a;", "END_VAR ;"), 65535, api.ErrParse, 0},
		{fill("TYPE ", "a:STRUCT END_STRUCT;", "END_TYPE"), 65536, api.ErrParse, 0}, {fill("TYPE ", "a:STRUCT END_STRUCT;", "END_TYPE x"), 65535, api.ErrParse, 0}, {fill("", "TYPE ", ""), 5, api.ErrParse, 0}, {fill("PROGRAM p ", "VAR ", ""), 14, api.ErrParse, 0}, {fill("", "PROGRAM ", ""), 8, api.ErrParse, 0},
		{fill("PROGRAM p\nLD ", "a[", ""), 13 + 64, api.ErrDeep, 0}, {fill("PROGRAM p\nLD a[", "(", ""), 15 + 31, api.ErrDeep, 0}, {fill("PROGRAM p\nLD a", "[", ""), 15, api.ErrParse, 0}, {fill("PROGRAM p\nLD ", "-", ""), 14, api.ErrParse, 0}, {fill("PROGRAM p\n", "a:", ""), 13, api.ErrParse, 0}, {fill("PROGRAM p\nCAL t", "(", ""), 16, api.ErrParse, 0}, {fill("PROGRAM p\n", "LD a\n", "LD a[b"), 65536, api.ErrParse, 0},
	} {
		p, e := Parse(x.text)
		switch {
		case len(x.text) != 65536:
			t.Fatalf("%.40q: %d bytes", x.text, len(x.text))
		case x.at < 0 && (e != nil || len(p.Code) != x.insts):
			t.Errorf("P14.1: %.40q: %v, %d instructions; want %d", x.text, e, len(p.Code), x.insts)
		case x.at >= 0 && !wrong(errorOf(t, x.text), x.at, x.want):
			t.Errorf("P14.1: %.40q: %v; want %v at %d", x.text, e, x.want, x.at)
		}
	}
}

// P14.1: any bytes, and right texts with some bytes changed, end in a program
// or an error.
func TestAnyBytes(t *testing.T) {
	r := rand.New(rand.NewSource(141))
	pieces := strings.Fields("a b T LD ADD CAL JMP RET PROGRAM END_PROGRAM VAR END_VAR : ; := .. ( ) [ ] , . - + * = 1 2 INT#5 T#1s NOT AND MOD %IX0.0 ? INT TYPE STRUCT END_STRUCT END_TYPE")
	for n := range 20000 {
		b := []byte(whole)
		switch n % 3 {
		case 0:
			for range 1 + r.Intn(4) {
				b[r.Intn(len(b))] = byte(r.Intn(256))
			}
		case 1:
			from := r.Intn(len(b))
			b = append(b[:from], b[min(len(b), from+r.Intn(9)):]...)
		case 2:
			b = []byte([]string{"", "PROGRAM p\n"}[r.Intn(2)])
			for range r.Intn(20) {
				b = append(b, pieces[r.Intn(len(pieces))]+[]string{" ", " ", "\n"}[r.Intn(3)]...)
			}
		}
		e := errorOf(t, string(b))
		if e == nil {
			continue
		}
		if x, ok := e.(*api.PlaceError); !ok || x.At < 0 || x.At > len(b) || x.Err == api.OK {
			t.Fatalf("P14.1: %q: %v", b, e)
		}
	}
}

// P14.4: the same text is the same program, in memory of its own; blanks,
// comments, empty lines say nothing.
func TestSameAgain(t *testing.T) {
	a, e := Parse(whole)
	if e != nil {
		t.Fatal(e)
	}
	b, _ := Parse(whole)
	if !reflect.DeepEqual(a, b) {
		t.Errorf("P14.4: %+v\n%+v", a, b)
	}
	seen := map[uintptr]bool{}
	if !apart(reflect.ValueOf(&a).Elem(), seen) || !apart(reflect.ValueOf(&b).Elem(), seen) {
		t.Error("P14.4: lists share memory")
	}
	for _, x := range [][2]string{
		{"LD a", " (* - *)LD\t(**) a \r"}, {"LD a\nST b", "\n\nLD a\n (* *) \n\t\r\n\nST b\n\n"}, {"x:LD a[1]", "x (* \n\n *) : (*:*) LD(*\n*)a [ 1 ](* *)"}, {"ADD(-1\n)", "ADD ( - 1\n\n\n ) (* \n *)"},
		{"CAL t(a:=1,b:=c.d)", "CAL t (*\n*) ( a := 1 , b (**) := c . d )\n"}, {"x:", "\nx :\n"}, {"", "\n(* LD a\n*)\n \n"},
	} {
		p, e := Parse("PROGRAM p\n" + x[0] + "\nEND_PROGRAM")
		q, f := Parse("\n\nPROGRAM\tp (* *)\n" + x[1] + "\n END_PROGRAM \n\n")
		moveAll(reflect.ValueOf(&p).Elem(), nil)
		moveAll(reflect.ValueOf(&q).Elem(), nil)
		if e != nil || f != nil || !reflect.DeepEqual(p, q) {
			t.Errorf("P14.4: %q and %q: %+v, %v; %+v, %v", x[0], x[1], p, e, q, f)
		}
	}
}
