package st

import (
	"math/rand"
	"reflect"
	"strings"
	"testing"

	"rung/api"
)

// Trees, written short: at a place, a variable, a number, what is made of
// operands.
func vr(at int, name string) api.Expr { return api.Expr{Op: api.ExVar, Name: name, At: at} }
func num(at int, n int64) api.Expr    { return api.Expr{Op: api.ExLit, N: n, At: at} }
func of(at, op int, l ...api.Expr) api.Expr {
	return api.Expr{Op: op, L: l, At: at}
}
func lit(at, kind int, n int64) api.Expr {
	return api.Expr{Op: api.ExLit, Kind: kind, N: n, At: at}
}
func el(at int, name string, index api.Expr) api.Expr {
	return api.Expr{Op: api.ExVar, Name: name, L: []api.Expr{index}, At: at}
}
func field(at int, name, of string) api.Expr {
	return api.Expr{Op: api.ExVar, Name: name, Field: of, At: at}
}
func call(at int, name string, l ...api.Expr) api.Expr {
	return api.Expr{Op: api.ExCall, Name: name, L: l, At: at}
}
func list(l ...api.Expr) []api.Expr { return l }

// P13.2: expressions as trees, with their places.
func TestExprTrees(t *testing.T) {
	for _, x := range []struct {
		s    string
		want api.Expr
	}{
		{"a + 2 * b", of(2, api.ExAdd, vr(0, "a"), of(6, api.ExMul, num(4, 2), vr(8, "b")))},
		{"a * 2 + b", of(6, api.ExAdd, of(2, api.ExMul, vr(0, "a"), num(4, 2)), vr(8, "b"))},
		{"a-b-c", of(3, api.ExSub, of(1, api.ExSub, vr(0, "a"), vr(2, "b")), vr(4, "c"))},
		{"a-(b-c)", of(1, api.ExSub, vr(0, "a"), of(4, api.ExSub, vr(3, "b"), vr(5, "c")))},
		{"a/b MOD c*d", of(9, api.ExMul, of(4, api.ExMod, of(1, api.ExDiv, vr(0, "a"), vr(2, "b")), vr(8, "c")), vr(10, "d"))},
		{"a AND b AND c", of(8, api.ExAnd, of(2, api.ExAnd, vr(0, "a"), vr(6, "b")), vr(12, "c"))},
		{"a XOR b XOR c", of(8, api.ExXor, of(2, api.ExXor, vr(0, "a"), vr(6, "b")), vr(12, "c"))},
		{"a OR b OR c", of(7, api.ExOr, of(2, api.ExOr, vr(0, "a"), vr(5, "b")), vr(10, "c"))},
		{"a AND b XOR c OR d", of(14, api.ExOr, of(8, api.ExXor, of(2, api.ExAnd, vr(0, "a"), vr(6, "b")), vr(12, "c")), vr(17, "d"))},
		{"a OR b XOR c AND d", of(2, api.ExOr, vr(0, "a"), of(7, api.ExXor, vr(5, "b"), of(13, api.ExAnd, vr(11, "c"), vr(17, "d"))))},
		{"a=b AND c<>d", of(4, api.ExAnd, of(1, api.ExEq, vr(0, "a"), vr(2, "b")), of(9, api.ExNe, vr(8, "c"), vr(11, "d")))},
		{"a<b", of(1, api.ExLt, vr(0, "a"), vr(2, "b"))}, {"a>b", of(1, api.ExGt, vr(0, "a"), vr(2, "b"))}, {"a<=b", of(1, api.ExLe, vr(0, "a"), vr(3, "b"))}, {"a>=b", of(1, api.ExGe, vr(0, "a"), vr(3, "b"))},
		{"a+1<b-1", of(3, api.ExLt, of(1, api.ExAdd, vr(0, "a"), num(2, 1)), of(5, api.ExSub, vr(4, "b"), num(6, 1)))},
		{"(a<b)<c", of(5, api.ExLt, of(2, api.ExLt, vr(1, "a"), vr(3, "b")), vr(6, "c"))},
		{"NOT a = b", of(6, api.ExEq, of(0, api.ExNot, vr(4, "a")), vr(8, "b"))},
		{"NOT (a = b)", of(0, api.ExNot, of(7, api.ExEq, vr(5, "a"), vr(9, "b")))},
		{"-a*b", of(2, api.ExMul, of(0, api.ExNeg, vr(1, "a")), vr(3, "b"))},
		{"a--b", of(1, api.ExSub, vr(0, "a"), of(2, api.ExNeg, vr(3, "b")))},
		{"-NOT-a", of(0, api.ExNeg, of(1, api.ExNot, of(4, api.ExNeg, vr(5, "a"))))},
		{"-5", of(0, api.ExNeg, num(1, 5))}, {"- T#5s", of(0, api.ExNeg, lit(2, api.KTime, 5000))},
		{"4294967295", num(0, 4294967295)}, {"16#FF", num(0, 255)}, {"INT#-5", lit(0, api.KInt, -5)}, {"TRUE", lit(0, api.KBool, 1)}, {"BOOL#0", lit(0, api.KBool, 0)}, {"DWORD#7", lit(0, api.KDword, 7)}, {"TIME#-1ms", lit(0, api.KTime, -1)},
		{" ( ( a ) ) ", vr(5, "a")}, {"((a)+(b))", of(4, api.ExAdd, vr(2, "a"), vr(6, "b"))},
		{"a.b", field(0, "a", "b")}, {"a . b", field(0, "a", "b")}, {"a[1]", el(0, "a", num(2, 1))}, {"a[b[c]]", el(0, "a", el(2, "b", vr(4, "c")))}, {"a[b.c+1]", el(0, "a", of(5, api.ExAdd, field(2, "b", "c"), num(6, 1)))},
		{"f(a)", call(0, "f", vr(2, "a"))}, {"MAX ( a , -1 )", call(0, "MAX", vr(6, "a"), of(10, api.ExNeg, num(11, 1)))}, {"LIMIT(0,a+1,g(b))", call(0, "LIMIT", num(6, 0), of(9, api.ExAdd, vr(8, "a"), num(10, 1)), call(12, "g", vr(14, "b")))},
		{"T + T#1s", of(2, api.ExAdd, vr(0, "T"), lit(4, api.KTime, 1000))},
	} {
		if got, e := Expr(x.s); e != nil || !reflect.DeepEqual(got, x.want) {
			t.Errorf("P13.2: %q: %+v, %v; want %+v", x.s, got, e, x.want)
		}
	}
}

// P13.2: statements as trees, with their places.
func TestStmtTrees(t *testing.T) {
	one := func(at int, n int64) [2]api.Expr { return [2]api.Expr{num(at, n), num(at, n)} }
	exit := func(at int) []api.Stmt { return []api.Stmt{{Op: api.StExit, At: at}} }
	for _, x := range []struct {
		s    string
		want []api.Stmt
	}{
		{"", nil}, {";", nil}, {";;;", nil},
		{"EXIT;RETURN;", []api.Stmt{{Op: api.StExit}, {Op: api.StReturn, At: 5}}},
		{";a:=1;;", []api.Stmt{{Op: api.StAssign, V: vr(1, "a"), E: list(num(4, 1)), At: 1}}},
		{"a.b:=c;", []api.Stmt{{Op: api.StAssign, V: field(0, "a", "b"), E: list(vr(5, "c"))}}},
		{"a[i]:=-c;", []api.Stmt{{Op: api.StAssign, V: el(0, "a", vr(2, "i")), E: list(of(6, api.ExNeg, vr(7, "c")))}}},
		{"t();", []api.Stmt{{Op: api.StCall, V: vr(0, "t")}}},
		{"t(IN:=a,PT:=T#1s);", []api.Stmt{{Op: api.StCall, V: vr(0, "t"), Args: []api.Arg{{Name: "IN", E: vr(6, "a"), At: 2}, {Name: "PT", E: lit(12, api.KTime, 1000), At: 8}}}}},
		{"IF a THEN END_IF;", []api.Stmt{{Op: api.StIf, Arms: []api.Arm{{E: list(vr(3, "a"))}}}}},
		{"IF a THEN ; ELSE ; END_IF;", []api.Stmt{{Op: api.StIf, Arms: []api.Arm{{E: list(vr(3, "a"))}, {}}}}},
		{"IF a THEN EXIT;ELSIF b THEN EXIT;ELSIF c THEN ELSE EXIT;END_IF;", []api.Stmt{{Op: api.StIf, Arms: []api.Arm{{E: list(vr(3, "a")), Body: exit(10)}, {E: list(vr(21, "b")), Body: exit(28)}, {E: list(vr(39, "c"))}, {Body: exit(51)}}}}},
		{"CASE a OF 1:END_CASE;", []api.Stmt{{Op: api.StCase, E: list(vr(5, "a")), Arms: []api.Arm{{Labels: [][2]api.Expr{one(10, 1)}}}}}},
		{"CASE a OF 1,2..3:EXIT;-4:5:;ELSE END_CASE;", []api.Stmt{{Op: api.StCase, E: list(vr(5, "a")), Arms: []api.Arm{
			{Labels: [][2]api.Expr{one(10, 1), {num(12, 2), num(15, 3)}}, Body: exit(17)},
			{Labels: [][2]api.Expr{{of(22, api.ExNeg, num(23, 4)), of(22, api.ExNeg, num(23, 4))}}},
			{Labels: [][2]api.Expr{one(25, 5)}}, {}}}}},
		{"CASE a OF T#1s,-INT#2..TRUE:END_CASE;", []api.Stmt{{Op: api.StCase, E: list(vr(5, "a")), Arms: []api.Arm{{Labels: [][2]api.Expr{{lit(10, api.KTime, 1000), lit(10, api.KTime, 1000)}, {of(15, api.ExNeg, lit(16, api.KInt, 2)), lit(23, api.KBool, 1)}}}}}}},
		{"FOR i:=1 TO n DO EXIT;END_FOR;", []api.Stmt{{Op: api.StFor, V: vr(4, "i"), E: list(num(7, 1), vr(12, "n")), Body: exit(17)}}},
		{"FOR i:=1 TO n BY -1 DO END_FOR;", []api.Stmt{{Op: api.StFor, V: vr(4, "i"), E: list(num(7, 1), vr(12, "n"), of(17, api.ExNeg, num(18, 1)))}}},
		{"WHILE a DO EXIT;END_WHILE;", []api.Stmt{{Op: api.StWhile, E: list(vr(6, "a")), Body: exit(11)}}},
		{"REPEAT EXIT;UNTIL a END_REPEAT;", []api.Stmt{{Op: api.StRepeat, E: list(vr(18, "a")), Body: exit(7)}}},
		{"REPEAT UNTIL a END_REPEAT;", []api.Stmt{{Op: api.StRepeat, E: list(vr(13, "a"))}}},
	} {
		text := "PROGRAM p " + x.s + " END_PROGRAM"
		want := api.Prog{Name: "p", Body: x.want}
		to := map[int]int{}
		for i := range len(text) {
			to[i] = i + len("PROGRAM p ")
		}
		move(reflect.ValueOf(&want).Elem(), to)
		if got, e := Parse(text); e != nil || !reflect.DeepEqual(got, want) {
			t.Errorf("P13.2: %q: %+v, %v; want %+v", text, got, e, want)
		}
	}
}

// P13.2: declarations as trees, with their places.
func TestDeclarations(t *testing.T) {
	for _, x := range []struct {
		s    string
		want api.Prog
	}{
		{"PROGRAM p END_PROGRAM", api.Prog{Name: "p"}},
		{"TYPE END_TYPE TYPE END_TYPE PROGRAM q VAR END_VAR VAR RETAIN END_VAR END_PROGRAM", api.Prog{Name: "q"}},
		{"TYPE s:STRUCT END_STRUCT;t:STRUCT a:INT;b:TIME:=T#1s;END_STRUCT;END_TYPE TYPE u:STRUCT c:BOOL:=-INT#3;END_STRUCT;END_TYPE PROGRAM p END_PROGRAM", api.Prog{Name: "p", Structs: []api.Struct{
			{Name: "s", At: 5},
			{Name: "t", Fields: []api.Var{{Name: "a", T: api.Type{Kind: api.KInt}, At: 34}, {Name: "b", T: api.Type{Kind: api.KTime}, Init: list(lit(48, api.KTime, 1000)), At: 40}}, At: 25},
			{Name: "u", Fields: []api.Var{{Name: "c", T: api.Type{Kind: api.KBool}, Init: list(of(95, api.ExNeg, lit(96, api.KInt, 3))), At: 87}}, At: 78}}}},
		{"PROGRAM p VAR a:INT;b AT %IX0.0:BOOL:=TRUE;END_VAR VAR RETAIN c:TON;d:ARRAY[-5..4294967295]OF BYTE:=1;END_VAR VAR e:DWORD:=-7;END_VAR END_PROGRAM", api.Prog{Name: "p", Vars: []api.Var{
			{Name: "a", T: api.Type{Kind: api.KInt}, At: 14}, {Name: "b", T: api.Type{Kind: api.KBool}, Addr: "%IX0.0", Init: list(lit(38, api.KBool, 1)), At: 20},
			{Name: "c", T: api.Type{Name: "TON"}, Retain: true, At: 62}, {Name: "d", T: api.Type{Kind: api.KArray, Lo: -5, Hi: 4294967295, Elem: api.KByte}, Retain: true, Init: list(num(100, 1)), At: 68},
			{Name: "e", T: api.Type{Kind: api.KDword}, Init: list(of(123, api.ExNeg, num(124, 7))), At: 114}}}},
		{"PROGRAM p VAR a:ARRAY[16#10..-4294967295]OF TIME;a:a;END_VAR END_PROGRAM", api.Prog{Name: "p", Vars: []api.Var{
			{Name: "a", T: api.Type{Kind: api.KArray, Lo: 16, Hi: -4294967295, Elem: api.KTime}, At: 14}, {Name: "a", T: api.Type{Name: "a"}, At: 49}}}},
	} {
		if got, e := Parse(x.s); e != nil || !reflect.DeepEqual(got, x.want) {
			t.Errorf("P13.2: %q:\n%+v, %v; want\n%+v", x.s, got, e, x.want)
		}
	}
	for kind, word := range kindText {
		p, e := Parse("PROGRAM p VAR a : " + word + "; b : ARRAY [0..1] OF " + word + "; END_VAR END_PROGRAM")
		if e != nil || p.Vars[0].T != (api.Type{Kind: kind}) || p.Vars[1].T != (api.Type{Kind: api.KArray, Hi: 1, Elem: kind}) {
			t.Errorf("P13.2: %s: %v, %v", word, p, e)
		}
	}
}

// P13.1: texts that aren't programs, told at the first token that may not stand
// there (behind the ^).
func TestRefuses(t *testing.T) {
	for _, s := range []string{
		"^", "^a", "^END_PROGRAM", "PROGRAM^", "PROGRAM ^5 END_PROGRAM", "PROGRAM ^IF END_PROGRAM", "PROGRAM p^", "PROGRAM p END_PROGRAM ^;", "PROGRAM p END_PROGRAM ^PROGRAM q END_PROGRAM", "PROGRAM p ^TYPE END_TYPE END_PROGRAM",
		"TYPE ^PROGRAM p END_PROGRAM", "TYPE t ^STRUCT END_STRUCT; END_TYPE", "TYPE t : ^INT; END_TYPE", "TYPE t : STRUCT END_STRUCT ^END_TYPE", "TYPE t : STRUCT a ^AT %IX0.0 : BOOL; END_STRUCT; END_TYPE", "TYPE t : STRUCT a : ^TON; END_STRUCT; END_TYPE", "TYPE t : STRUCT a : ^ARRAY[1..2] OF INT; END_STRUCT; END_TYPE", "TYPE t : STRUCT a : INT := ^x; END_STRUCT; END_TYPE", "TYPE t : STRUCT a : INT ^END_STRUCT; END_TYPE", "TYPE t : STRUCT ^END_TYPE", "TYPE END_TYPE^; PROGRAM p END_PROGRAM",
		"PROGRAM p VAR a : INT; ^END_PROGRAM", "PROGRAM p VAR a : INT ^END_VAR END_PROGRAM", "PROGRAM p VAR a^, b : INT; END_VAR END_PROGRAM", "PROGRAM p VAR ^INT : a; END_VAR END_PROGRAM", "PROGRAM p VAR a AT ^x : INT; END_VAR END_PROGRAM", "PROGRAM p VAR a : INT ^AT %IW0; END_VAR END_PROGRAM", "PROGRAM p VAR RETAIN ^RETAIN a : INT; END_VAR END_PROGRAM", "PROGRAM p VAR a : ^STRUCT END_STRUCT; END_VAR END_PROGRAM", "PROGRAM p VAR a : ^; END_VAR END_PROGRAM", "PROGRAM p VAR a : ^5; END_VAR END_PROGRAM", "PROGRAM p ; ^VAR END_VAR END_PROGRAM",
		"PROGRAM p VAR a : ARRAY ^1..2 OF INT; END_VAR END_PROGRAM", "PROGRAM p VAR a : ARRAY[^a..2] OF INT; END_VAR END_PROGRAM", "PROGRAM p VAR a : ARRAY[^INT#1..2] OF INT; END_VAR END_PROGRAM", "PROGRAM p VAR a : ARRAY[1..^INT#2] OF INT; END_VAR END_PROGRAM", "PROGRAM p VAR a : ARRAY[^TRUE..2] OF INT; END_VAR END_PROGRAM", "PROGRAM p VAR a : ARRAY[^T#1s..2] OF INT; END_VAR END_PROGRAM", "PROGRAM p VAR a : ARRAY[-^-1..2] OF INT; END_VAR END_PROGRAM", "PROGRAM p VAR a : ARRAY[-^INT#1..2] OF INT; END_VAR END_PROGRAM", "PROGRAM p VAR a : ARRAY[1^, 2] OF INT; END_VAR END_PROGRAM", "PROGRAM p VAR a : ARRAY[1..2^, 1..2] OF INT; END_VAR END_PROGRAM", "PROGRAM p VAR a : ARRAY[1..2] ^INT; END_VAR END_PROGRAM", "PROGRAM p VAR a : ARRAY[1..2] OF ^b; END_VAR END_PROGRAM", "PROGRAM p VAR a : ARRAY[1..2] OF ^ARRAY[1..2] OF INT; END_VAR END_PROGRAM",
		"PROGRAM p VAR a : INT := -^T#1s; END_VAR END_PROGRAM", "PROGRAM p VAR a : INT := -^-1; END_VAR END_PROGRAM", "PROGRAM p VAR a : INT := ^(1); END_VAR END_PROGRAM", "PROGRAM p VAR a : INT := 1 ^+ 1; END_VAR END_PROGRAM", "PROGRAM p VAR a : BOOL := ^NOT TRUE; END_VAR END_PROGRAM",
		"PROGRAM p a^; END_PROGRAM", "PROGRAM p a ^= 1; END_PROGRAM", "PROGRAM p a ^: = 1; END_PROGRAM", "PROGRAM p a := ^; END_PROGRAM", "PROGRAM p a := 1 ^END_PROGRAM", "PROGRAM p a := 1 ^b := 2; END_PROGRAM", "PROGRAM p a := b ^:= 2; END_PROGRAM", "PROGRAM p ^5 := a; END_PROGRAM", "PROGRAM p ^(a) := 1; END_PROGRAM", "PROGRAM p a.^5 := 1; END_PROGRAM", "PROGRAM p a.b^.c := 1; END_PROGRAM", "PROGRAM p a.b^[1] := 1; END_PROGRAM", "PROGRAM p a[1]^.b := 1; END_PROGRAM", "PROGRAM p a[1]^[2] := 1; END_PROGRAM", "PROGRAM p a[^] := 1; END_PROGRAM", "PROGRAM p a[1^, 2] := 1; END_PROGRAM", "PROGRAM p ^%QX0.0 := TRUE; END_PROGRAM", "PROGRAM p a := ^%IX0.0; END_PROGRAM", "PROGRAM p ^- 1; END_PROGRAM", "PROGRAM p ^1: a := 1; END_PROGRAM",
		"PROGRAM p t(^1); END_PROGRAM", "PROGRAM p t(x^); END_PROGRAM", "PROGRAM p t(x ^= 1); END_PROGRAM", "PROGRAM p t(x := 1,^); END_PROGRAM", "PROGRAM p t(^, x := 1); END_PROGRAM", "PROGRAM p t(x := 1 ^y := 2); END_PROGRAM", "PROGRAM p t(x := 1^; END_PROGRAM", "PROGRAM p t() ^END_PROGRAM", "PROGRAM p t(Q ^=> a); END_PROGRAM", "PROGRAM p t()^.Q := 1; END_PROGRAM", "PROGRAM p t.x^(); END_PROGRAM",
		"PROGRAM p IF ^THEN END_IF; END_PROGRAM", "PROGRAM p IF a ^b := 1; END_IF; END_PROGRAM", "PROGRAM p IF a THEN ^END_PROGRAM", "PROGRAM p IF a THEN END_IF ^END_PROGRAM", "PROGRAM p IF a THEN ELSE ^ELSIF b THEN END_IF; END_PROGRAM", "PROGRAM p IF a THEN ELSE ^ELSE END_IF; END_PROGRAM", "PROGRAM p IF a THEN ELSIF ^THEN END_IF; END_PROGRAM", "PROGRAM p IF a THEN ^END_WHILE; END_PROGRAM", "PROGRAM p ^ELSE END_PROGRAM", "PROGRAM p ^THEN END_PROGRAM",
		"PROGRAM p CASE a OF ^END_CASE; END_PROGRAM", "PROGRAM p CASE a OF ^ELSE END_CASE; END_PROGRAM", "PROGRAM p CASE a ^1: END_CASE; END_PROGRAM", "PROGRAM p CASE a OF ^b: END_CASE; END_PROGRAM", "PROGRAM p CASE a OF 1 ^END_CASE; END_PROGRAM", "PROGRAM p CASE a OF 1,^: END_CASE; END_PROGRAM", "PROGRAM p CASE a OF 1..^: END_CASE; END_PROGRAM", "PROGRAM p CASE a OF 1..2^..3: END_CASE; END_PROGRAM", "PROGRAM p CASE a OF 1^+1: END_CASE; END_PROGRAM", "PROGRAM p CASE a OF -^-1: END_CASE; END_PROGRAM", "PROGRAM p CASE a OF -^T#1s: END_CASE; END_PROGRAM", "PROGRAM p CASE a OF 1: ELSE ^2: END_CASE; END_PROGRAM", "PROGRAM p CASE a OF 1: ELSE ^ELSE END_CASE; END_PROGRAM", "PROGRAM p CASE a OF 1: IF b THEN ^2: END_IF; END_CASE; END_PROGRAM", "PROGRAM p CASE a OF 1: b := 1 ^2: END_CASE; END_PROGRAM", "PROGRAM p CASE a OF 1: b := 1 -2^: END_CASE; END_PROGRAM", "PROGRAM p CASE a OF 1: END_CASE ^END_PROGRAM",
		// An arm's statements don't end at a time.
		"PROGRAM p CASE a OF 1: ^T#1s: END_CASE; END_PROGRAM", "PROGRAM p CASE a OF T#1s: ; ^T#2s: END_CASE; END_PROGRAM",
		"PROGRAM p FOR ^1 := 1 TO 2 DO END_FOR; END_PROGRAM", "PROGRAM p FOR a^.b := 1 TO 2 DO END_FOR; END_PROGRAM", "PROGRAM p FOR a^[1] := 1 TO 2 DO END_FOR; END_PROGRAM", "PROGRAM p FOR a := 1 ^DO END_FOR; END_PROGRAM", "PROGRAM p FOR a := 1 TO 2 BY 3 ^BY 4 DO END_FOR; END_PROGRAM", "PROGRAM p FOR a := 1 ^BY 2 TO 3 DO END_FOR; END_PROGRAM", "PROGRAM p FOR a := 1 TO 2 ^; END_FOR; END_PROGRAM", "PROGRAM p FOR a := 1 TO 2 DO ^END_PROGRAM", "PROGRAM p FOR a := 1 TO 2 DO END_FOR ^END_PROGRAM",
		"PROGRAM p WHILE ^DO END_WHILE; END_PROGRAM", "PROGRAM p WHILE a ^THEN END_WHILE; END_PROGRAM", "PROGRAM p WHILE a DO END_WHILE ^END_PROGRAM", "PROGRAM p REPEAT ^END_REPEAT; END_PROGRAM", "PROGRAM p REPEAT UNTIL a^; END_REPEAT; END_PROGRAM", "PROGRAM p REPEAT UNTIL a END_REPEAT ^END_PROGRAM",
		"PROGRAM p EXIT ^END_PROGRAM", "PROGRAM p RETURN ^1; END_PROGRAM", "PROGRAM p RETURN ^END_PROGRAM",
	} {
		refused(t, "program", s)
	}
	for _, s := range []string{
		"^", "^;", "^+a", "^*", "a ^b", "a ^1", "a ^;", "a ^NOT b", "a +^", "a + ^* b", "a < b ^< c", "a = b ^= c", "a < b ^<> c", "NOT^", "-^", "(^", "(^)", "(a^", "(a ^b)", "(a^, b)", "a^)", "f(^", "f(^)", "f(a^", "f(a,^)", "f(a^; b)", "f(x ^:= a)", "f(a)^(b)", "f(a)^.b", "f(a)^[1]", "a.^", "a.^1", "a.^INT", "a.^(b)", "a^..b", "a[^", "a[^]", "a[1^", "a[1^)", "a.b^.c", "a.b^(c)", "a[1]^.b", "a[1]^(b)", "5^(a)", "5^.a", "5 ^5", "^INT", "^IF", "^%IX0.0", "a ^=> b", "a ^:= 1", "TRUE ^FALSE", "a MOD ^MOD b",
	} {
		refused(t, "whole", s)
	}
}

// refused: a text is refused at its ^, which isn't there.
func refused(t *testing.T, start, marked string) {
	t.Helper()
	at := strings.IndexByte(marked, '^')
	text := marked[:at] + marked[at+1:]
	if e := told(t, start, text); !wrong(e, at, api.ErrParse) {
		t.Errorf("P13.1: %q: %v; want ErrParse at %d", text, e, at)
	}
}

// P13.1: lex's errors are handed on, ahead of a token that may not stand where
// it stands.
func TestTokensErrors(t *testing.T) {
	for _, x := range []struct {
		s    string
		at   int
		want api.Errno
	}{
		{"a ?", 2, api.ErrLex}, {"+ ?", 2, api.ErrLex}, {"(* a", 0, api.ErrLex}, {"PROGRAM p END_PROGRAM (*", 22, api.ErrLex}, {"a + 4294967296", 4, api.ErrLexBig}, {strings.Repeat("a", 33), 0, api.ErrLexBig}, {"INT#40000", 0, api.ErrConst}, {"IF T#25d", 3, api.ErrConst}, {"a := %IX16.0", 5, api.ErrAddr},
		{strings.Repeat("(", 65537), 65536, api.ErrLexBig}, {strings.Repeat(" ", 65537), 65536, api.ErrLexBig}, {strings.Repeat("(", 1000) + "?", 1000, api.ErrLex},
	} {
		for _, start := range []string{"program", "whole"} {
			if e := told(t, start, x.s); !wrong(e, x.at, x.want) {
				t.Errorf("P13.1: %.60q: %v; want %v at %d", x.s, e, x.want, x.at)
			}
		}
	}
	if api.ErrParse != 130 || api.ErrDeep != 131 {
		t.Error("P13.1: the errors' numbers")
	}
}

// deeper: what stands around something that is one deeper, and where the first
// thing that is so begins.
type deeper struct {
	ahead, behind string
	at            int
}

// marked reads it from a text with a ^ ahead of the first one, and a ? for the
// next nesting.
func marked(s string) deeper {
	at := strings.IndexByte(s, '^')
	ahead, behind, _ := strings.Cut(s[:at]+s[at+1:], "?")
	return deeper{ahead, behind, at}
}

func (d deeper) nest(n int, inner string) string {
	return strings.Repeat(d.ahead, n) + inner + strings.Repeat(d.behind, n)
}

// bounded: within around, 31 nestings are taken; of 32, and of more, what is
// first 33 deep is refused.
func (d deeper) bounded(t *testing.T, start, ahead, inner, behind string) {
	t.Helper()
	if e := told(t, start, ahead+d.nest(31, inner)+behind); e != nil {
		t.Errorf("P13.3: %s: %v", ahead+d.nest(31, inner)+behind, e)
	}
	at := len(ahead) + 31*len(d.ahead) + d.at
	for _, n := range []int{32, 33, 100} {
		if e := told(t, start, ahead+d.nest(n, inner)+behind); !wrong(e, at, api.ErrDeep) {
			t.Errorf("P13.3: %s: %v; want ErrDeep at %d", ahead+d.nest(n, inner)+behind, e, at)
		}
	}
}

// P13.3: each way in which statements stand within one another, up to the bound
// and past it; the innermost may be an empty one.
func TestDeepStmts(t *testing.T) {
	for _, s := range []string{
		"IF a THEN ^?END_IF; ", "IF a THEN ^x := 1; ? ELSE x := 2; END_IF; ", "IF a THEN ELSIF b THEN ^?END_IF; ", "IF a THEN ELSE ^?END_IF; ", "CASE a OF 1: ^?END_CASE; ", "CASE a OF 1: ^; 2..3, -4: x := 1; ? 5: END_CASE; ", "CASE a OF 1: 2: ^?END_CASE; ", "CASE a OF 1: ELSE ^?END_CASE; ", "FOR i := 1 TO 2 DO ^?END_FOR; ", "FOR i := 1 TO 2 BY 3 DO ^; ?END_FOR; ", "WHILE a DO ^?END_WHILE; ", "REPEAT ^?UNTIL a END_REPEAT; ",
	} {
		for _, inner := range []string{"a := 1; ", "a[((1))] := ((1)); ", "t(); ", "EXIT; ", "RETURN; ", "; ", "IF a THEN END_IF; ", "REPEAT UNTIL a END_REPEAT; "} {
			marked(s).bounded(t, "program", "PROGRAM p ", inner, "END_PROGRAM")
		}
	}
	// Nothing within the 32nd: nothing is too deep.
	for _, s := range []string{"IF a THEN ELSIF b THEN ^?ELSE END_IF;", "CASE a OF 1: ^?2: ELSE END_CASE;", "FOR i := 1 TO 2 DO ^?END_FOR;", "WHILE a DO ^?END_WHILE;", "REPEAT ^?UNTIL a END_REPEAT;"} {
		if e := told(t, "program", "PROGRAM p "+marked(s).nest(32, "")+"END_PROGRAM"); e != nil {
			t.Errorf("P13.3: %s: %v", s, e)
		}
	}
	if e := told(t, "program", "PROGRAM p "+strings.Repeat("IF a THEN b := 1; END_IF; ", 1000)+"END_PROGRAM"); e != nil {
		t.Errorf("P13.3: side by side: %v", e)
	}
}

// P13.3: each way in which expressions stand within one another, wherever one
// may stand, up to the bound and past it.
func TestDeepExprs(t *testing.T) {
	ways := []string{"(^?)", "-^?", "NOT ^?", "a[^?]", "f(^?)", "f(^a, ?)", "f(^a + b, ?, c)", "f(^?, b)", "(^a + ?)", "(^a = ?)", "a * (^?) + b", "(^?) OR c", "a[^b * ?]", "a < (^?)"}
	places := [][2]string{{"a := ", ";"}, {"a[1] := ", ";"}, {"t(x := ", ");"}, {"t(x := 1, y := ", ", z := 2);"}, {"IF ", " THEN END_IF;"}, {"IF a THEN ELSIF ", " THEN END_IF;"}, {"CASE ", " OF 1: END_CASE;"}, {"FOR i := ", " TO 2 DO END_FOR;"}, {"FOR i := 1 TO ", " DO END_FOR;"}, {"FOR i := 1 TO 2 BY ", " DO END_FOR;"}, {"WHILE ", " DO END_WHILE;"}, {"REPEAT UNTIL ", " END_REPEAT;"}, {"IF a THEN WHILE b DO REPEAT a := ", "; UNTIL c END_REPEAT; END_WHILE; END_IF;"}}
	for _, way := range ways {
		for _, inner := range []string{"x", "5", "T#1s", "x.y"} {
			marked(way).bounded(t, "whole", "", inner, "")
			for _, place := range places {
				marked(way).bounded(t, "program", "PROGRAM p "+place[0], inner, place[1]+" END_PROGRAM")
			}
		}
	}
	// What is assigned to is 1 deep, its index 2.
	index := func(n int) string {
		return "PROGRAM p a[" + strings.Repeat("(", n) + "x" + strings.Repeat(")", n) + "] := 1; END_PROGRAM"
	}
	if e := told(t, "program", index(30)); e != nil {
		t.Errorf("P13.3: %v", e)
	}
	if e := told(t, "program", index(31)); !wrong(e, len("PROGRAM p a[")+31, api.ErrDeep) {
		t.Errorf("P13.3: %v", e)
	}
	// Operands of other operators are no deeper.
	for _, op := range []string{"+", "-", "*", "/", " MOD ", " AND ", " OR ", " XOR "} {
		if e := told(t, "whole", "a"+strings.Repeat(op+"a", 1000)); e != nil {
			t.Errorf("P13.3: %s: %v", op, e)
		}
		last := strings.Repeat("a"+op, 100)
		if e := told(t, "whole", last+strings.Repeat("(", 31)+"a"+strings.Repeat(")", 31)); e != nil {
			t.Errorf("P13.3: %s: %v", op, e)
		}
		if e := told(t, "whole", last+strings.Repeat("(", 32)+"a"+strings.Repeat(")", 32)); !wrong(e, len(last)+32, api.ErrDeep) {
			t.Errorf("P13.3: %s: %v", op, e)
		}
	}
	if e := told(t, "whole", "f("+strings.Repeat("a, ", 1000)+"a)"); e != nil {
		t.Errorf("P13.3: %v", e)
	}
	// Literals with a sign, of labels and first values, aren't deep wherever they stand.
	if e := told(t, "program", "PROGRAM p VAR a : INT := -1; END_VAR "+strings.Repeat("CASE a OF -1..-2: ", 32)+strings.Repeat("END_CASE; ", 32)+"END_PROGRAM"); e != nil {
		t.Errorf("P13.3: %v", e)
	}
}

// P13.1, P13.3: from the left, the first of both counts; a token that begins
// nothing isn't too deep: it may not stand there.
func TestDeepOrWrong(t *testing.T) {
	open, ifs := strings.Repeat("(", 32), "PROGRAM p "+strings.Repeat("IF a THEN ", 32)
	for _, x := range []struct {
		start, s string
		at       int
		want     api.Errno
	}{
		{"whole", open + "a", 32, api.ErrDeep}, {"whole", open + "a +", 32, api.ErrDeep}, {"whole", open + "(", 32, api.ErrDeep}, {"whole", open + "- -", 32, api.ErrDeep}, {"whole", open + "NOT", 32, api.ErrDeep},
		{"whole", open, 32, api.ErrParse}, {"whole", open + ")", 32, api.ErrParse}, {"whole", open + "+", 32, api.ErrParse}, {"whole", open + "IF", 32, api.ErrParse}, {"whole", open + "%IX0.0", 32, api.ErrParse},
		{"whole", "a b" + open + "a", 2, api.ErrParse}, {"whole", open[1:] + "5" + open, 32, api.ErrParse}, {"whole", open[1:] + "a" + open, 33, api.ErrDeep}, {"whole", "f(" + open[1:] + ")", 33, api.ErrParse},
		{"program", ifs + "a", len(ifs), api.ErrDeep}, {"program", ifs + "IF", len(ifs), api.ErrDeep}, {"program", ifs + ";", len(ifs), api.ErrDeep},
		{"program", ifs, len(ifs), api.ErrParse}, {"program", ifs + "5", len(ifs), api.ErrParse}, {"program", ifs + "END_PROGRAM", len(ifs), api.ErrParse}, {"program", ifs + ":=", len(ifs), api.ErrParse}, {"program", ifs + "TYPE", len(ifs), api.ErrParse},
		{"program", "PROGRAM p a b " + ifs, 12, api.ErrParse},
	} {
		if e := told(t, x.start, x.s); !wrong(e, x.at, x.want) {
			t.Errorf("P13.3: %q: %v; want %v at %d", x.s, e, x.want, x.at)
		}
	}
}

// P13.1, P13.3: texts of MaxText bytes, whatever they nest.
func TestFullText(t *testing.T) {
	fill := func(s string) string { return strings.Repeat(s, 65536/len(s)) }
	for _, x := range []struct {
		start, s string
		at       int
	}{
		{"whole", fill("("), 32}, {"whole", fill("-"), 32}, {"whole", fill("a["), 64}, {"whole", fill("f("), 64}, {"whole", fill("NOT "), 128}, {"whole", fill("-("), 32},
		{"program", "PROGRAM p " + fill("IF a THEN ")[:60000], 10 + 320}, {"program", "PROGRAM p " + fill("REPEAT ")[:63000], 10 + 224}, {"program", "PROGRAM p " + fill("CASE a OF 1: ")[:60000], 10 + 32*13},
	} {
		if e := told(t, x.start, x.s); !wrong(e, x.at, api.ErrDeep) {
			t.Errorf("P13.3: %.40q: %v; want ErrDeep at %d", x.s, e, x.at)
		}
	}
	sum, e := Expr(strings.Repeat("a+", 32767) + "bc")
	if e != nil {
		t.Fatalf("P13.1: %v", e)
	}
	for i := 32766; i >= 0; i-- { // equals from the left
		if sum.Op != api.ExAdd || sum.At != 2*i+1 || len(sum.L) != 2 || sum.L[1].Op != api.ExVar || sum.L[1].At != 2*i+2 {
			t.Fatalf("P13.2: %d: %d at %d", i, sum.Op, sum.At)
		}
		sum = sum.L[0]
	}
	if !reflect.DeepEqual(sum, vr(0, "a")) {
		t.Errorf("P13.2: %v", sum)
	}
	p, e := Parse("PROGRAM p " + strings.Repeat("a:=1;", 13000) + " END_PROGRAM")
	if e != nil || len(p.Body) != 13000 || p.Body[12999].At != 10+5*12999 {
		t.Errorf("P13.1: %v", e)
	}
	p, e = Parse("PROGRAM p VAR " + strings.Repeat("a:a;", 16000) + " END_VAR END_PROGRAM")
	if e != nil || len(p.Vars) != 16000 || p.Vars[15999].At != 14+4*15999 {
		t.Errorf("P13.1: %v", e)
	}
	if e := told(t, "program", "PROGRAM p "+strings.Repeat("\n", 65536-21)+"END_PROGRAM"); e != nil {
		t.Errorf("P13.1: %v", e)
	}
}

// P13.1: any bytes, and right texts with some bytes changed, end in a tree or
// an error.
func TestAnyBytes(t *testing.T) {
	r := rand.New(rand.NewSource(131))
	pieces := strings.Fields("a b T PROGRAM END_PROGRAM VAR END_VAR : ; := .. ( ) [ ] , . - + * = < IF THEN ELSE END_IF CASE OF END_CASE 1 2 INT#5 T#1s FOR TO DO END_FOR NOT AND MOD %IX0.0 ? INT TYPE STRUCT END_STRUCT END_TYPE")
	for n := range 20000 {
		b := []byte(whole)
		switch n % 3 {
		case 0:
			for range 1 + r.Intn(4) {
				b[r.Intn(len(b))] = byte(r.Intn(256))
			}
		case 1:
			from := r.Intn(len(b))
			b = append(b[:from], b[min(len(b), from+r.Intn(9)):]...)
		case 2:
			b = b[:0]
			for range r.Intn(20) {
				b = append(b, pieces[r.Intn(len(pieces))]+" "...)
			}
		}
		for _, start := range []string{"program", "whole"} {
			e := told(t, start, string(b))
			if e == nil {
				continue
			}
			if x, ok := e.(*api.PlaceError); !ok || x.At < 0 || x.At > len(b) || x.Err == api.OK {
				t.Fatalf("P13.1: %q: %v", b, e)
			}
		}
	}
}

// P13.4: the same text is the same tree, in memory of its own; blanks and
// comments say nothing.
func TestSameAgain(t *testing.T) {
	a, e := Parse(whole)
	if e != nil {
		t.Fatal(e)
	}
	b, _ := Parse(whole)
	if !reflect.DeepEqual(a, b) {
		t.Errorf("P13.4: %+v\n%+v", a, b)
	}
	seen := map[uintptr]bool{}
	if !apart(reflect.ValueOf(&a).Elem(), seen) || !apart(reflect.ValueOf(&b).Elem(), seen) {
		t.Error("P13.4: lists share memory")
	}
	for _, x := range [][2]string{{"a+b", " a (* - *) + (**)b\n"}, {"f(a,-1)", "f\t(\ra\n,(* ( *)-(*1*)1)(**)"}, {"a[1].b", "a [ 1 ] . b"}} {
		l, e := Expr(x[0])
		m, f := Expr(x[1])
		move(reflect.ValueOf(&l).Elem(), nil)
		move(reflect.ValueOf(&m).Elem(), nil)
		if !reflect.DeepEqual(l, m) || (e == nil) != (f == nil) {
			t.Errorf("P13.4: %q and %q: %+v, %v; %+v, %v", x[0], x[1], l, e, m, f)
		}
	}
}

// A panic that isn't the package's own isn't taken for a text's error.
func TestOtherPanic(t *testing.T) {
	defer func() {
		if cause := recover(); cause != "other" {
			t.Errorf("recovered: %v", cause)
		}
	}()
	e := read("a", func(*reader) { panic("other") })
	t.Errorf("told as %v", e)
}
