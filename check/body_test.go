package check

import (
	"slices"
	"strconv"
	"strings"
	"testing"

	"rung/api"
	"rung/il"
	"rung/types"
)

// rightBody, wrongBody: statements that are taken; that are wrong at the ^.
func rightBody(t *testing.T, s string) {
	t.Helper()
	p, _ := statements(t, s)
	if e := Check(p); e != nil {
		t.Errorf("P16.2: %s: %v", s, e)
	}
}

func wrongBody(t *testing.T, s string, want api.Errno) {
	t.Helper()
	p, at := statements(t, s)
	if e := Check(p); !wrongAt(e, at, want) {
		t.Errorf("P16.2: %s: %v; want %v at %d", s, e, want, at)
	}
}

// P16.2: what may be assigned to, and what to it.
func TestAssignments(t *testing.T) {
	rightBody(t, "")
	for _, k := range scalars {
		w, other := words[k], words[k%11+1]
		for _, v := range []string{"v" + w, "a" + w + "[vINT]", "q.f" + w} {
			rightBody(t, v+" := v"+w+";")
			wrongBody(t, v+" := ^v"+other+";", api.ErrKind)
			if k == api.KTime {
				wrongBody(t, v+" := ^1;", api.ErrKind)
			} else {
				rightBody(t, v+" := 1;")
				if high := ranges[k][1]; high < 1<<32-1 {
					wrongBody(t, v+" := ^"+strconv.FormatInt(high+1, 10)+";", api.ErrConst)
				}
			}
		}
		wrongBody(t, "^a"+w+" := z;", api.ErrTarget)
		wrongBody(t, "^v"+w+"[0] := z;", api.ErrTarget)
		wrongBody(t, "^v"+w+".x := 1;", api.ErrName)
	}
	for _, name := range []string{"TON", "TOF", "TP", "CTU", "CTD", "CTUD", "R_TRIG", "F_TRIG", "SR", "RS"} {
		in, out := types.Pins(name)
		for _, pin := range append(in, out...) {
			wrongBody(t, "^b"+name+"."+pin+" := z;", api.ErrTarget)
		}
		wrongBody(t, "^b"+name+" := z;", api.ErrTarget)
		wrongBody(t, "^b"+name+"[z] := z;", api.ErrTarget)
	}
	rightBody(t, "qx := ix; mx := qx; qw := iw; mw := 16#FFFF;")
	for _, s := range []string{"^ix := TRUE;", "^iw := 5;", "^q := 5;", "^q[1] := 5;", "^ix := z;"} {
		wrongBody(t, s, api.ErrTarget)
	}
	for _, s := range []string{"^z := 5;", "^z := y;", "^z.x := 1;", "^z[y] := 1;", "^q.z := 5;", "aINT[^z] := y;", "vINT := ^z;", "aINT[0] := aINT[^z];"} {
		wrongBody(t, s, api.ErrName)
	}
	for _, s := range []string{"aINT[^vBOOL] := z;", "aINT[^T#1s] := z;", "vINT := ^vDINT;", "vINT := ^aINT;", "vBOOL := vWORD ^+ vWORD < 1;", "vINT := vINT ^< 1;"} {
		wrongBody(t, s, api.ErrKind)
	}
	for _, s := range []string{"aINT[^2147483648] := z;", "vINT := ^32768;", "vUINT := ^-1;", "vBOOL := ^2;", "vINT := vINT + ^40000;"} {
		wrongBody(t, s, api.ErrConst)
	}
	wrongBody(t, "vINT := 1; vINT := ^vBOOL; z := 1; EXIT;", api.ErrKind)
}

// P16.2: conditions, loops, EXIT; each statement whole ahead of the next.
func TestControl(t *testing.T) {
	for _, s := range []string{
		"IF vBOOL THEN ELSIF 1 THEN ELSE END_IF; IF vINT < 5 THEN vINT := 5; END_IF;",
		"WHILE TRUE DO EXIT; END_WHILE; REPEAT EXIT; UNTIL vBOOL END_REPEAT; RETURN;",
		"WHILE vBOOL DO IF vBOOL THEN CASE vINT OF 1: EXIT; ELSE EXIT; END_CASE; ELSE EXIT; END_IF; END_WHILE;",
		"FOR vINT := 1 TO 5 DO EXIT; END_FOR; FOR vINT := vINT TO aINT[0] BY -1 DO vINT := 3; RETURN; END_FOR;",
		"FOR qw := 0 TO 1 DO END_FOR;",
	} {
		rightBody(t, s)
	}
	for _, k := range scalars {
		v := "v" + words[k]
		if k != api.KBool {
			for _, s := range []string{"IF ^" + v + " THEN z := 1; END_IF;", "IF TRUE THEN ELSIF ^" + v + " THEN z := 1; END_IF;", "WHILE ^" + v + " DO z := 1; END_WHILE;", "REPEAT UNTIL ^" + v + " END_REPEAT;"} {
				wrongBody(t, s, api.ErrKind)
			}
		}
		if k == api.KBool || k >= api.KByte {
			wrongBody(t, "FOR ^"+v+" := z TO z DO EXIT; END_FOR;", api.ErrTarget)
			wrongBody(t, "CASE ^"+v+" OF 99999: z := 1; END_CASE;", api.ErrKind)
			continue
		}
		rightBody(t, "FOR "+v+" := 1 TO 2 BY 3 DO EXIT; END_FOR; CASE "+v+" OF 0, 1..1, "+words[k]+"#127: END_CASE;")
		other := "v" + words[k%11+1]
		wrongBody(t, "FOR "+v+" := ^"+other+" TO z BY z DO z := 1; END_FOR;", api.ErrKind)
		wrongBody(t, "FOR "+v+" := 1 TO ^"+other+" BY z DO z := 1; END_FOR;", api.ErrKind)
		wrongBody(t, "FOR "+v+" := 1 TO 2 BY ^"+other+" DO z := 1; END_FOR;", api.ErrKind)
	}
	for _, s := range []string{"^EXIT;", "IF TRUE THEN ^EXIT; END_IF;", "CASE 1 OF 1: ^EXIT; END_CASE;", "CASE 1 OF 1: ELSE ^EXIT; END_CASE;", "WHILE TRUE DO END_WHILE; ^EXIT;", "REPEAT UNTIL TRUE END_REPEAT; ^EXIT;", "FOR vINT := 1 TO 2 DO EXIT; END_FOR; ^EXIT;", "IF TRUE THEN ELSE ^EXIT; END_IF; EXIT;"} {
		wrongBody(t, s, api.ErrExit)
	}
	for _, s := range []string{"^aINT", "^iw", "^q", "^bTON"} {
		wrongBody(t, "FOR "+s+" := 1 TO 2 DO END_FOR;", api.ErrTarget)
	}
	for _, s := range []string{
		"IF ^z THEN y := 1; END_IF;", "IF TRUE THEN ^y := 1; ELSIF z THEN END_IF;", "IF TRUE THEN ELSIF ^z THEN END_IF;", "IF TRUE THEN ELSIF TRUE THEN ^z := 1; ELSE y := 1; END_IF;", "IF TRUE THEN ELSE ^y := 1; END_IF; z := 1;",
		"WHILE ^z DO y := 1; END_WHILE;", "WHILE TRUE DO ^y := 1; END_WHILE; z := 1;", "REPEAT ^y := 1; UNTIL z END_REPEAT;", "REPEAT UNTIL ^z END_REPEAT; y := 1;",
		"FOR ^z := 1 TO 2 DO y := 1; END_FOR;", "FOR vINT := ^z TO y DO x := 1; END_FOR;", "FOR vINT := 1 TO ^y BY x DO x := 1; END_FOR;", "FOR vINT := 1 TO 2 BY ^y DO x := 1; END_FOR;", "FOR vINT := 1 TO 2 DO ^x := 1; END_FOR;",
		"CASE ^z OF 99999: y := 1; END_CASE;", "CASE 1 OF 1: ^y := 1; 99999999: END_CASE;", "CASE 1 OF 1: 2: ^y := 1; ELSE z := 1; END_CASE;", "CASE 1 OF 1: ELSE ^z := 1; END_CASE; x := 1;",
	} {
		wrongBody(t, s, api.ErrName)
	}
}

// P16.2: a CASE's labels.
func TestLabels(t *testing.T) {
	for _, s := range []string{"CASE 5 OF -2147483648..2147483647: END_CASE;", "CASE vINT OF -32768, 32767, INT#-5..INT#5, -5..INT#5: END_CASE;", "CASE vUDINT OF 4294967295: END_CASE;", "CASE vINT + 1 OF 1: 1: 1, 1: END_CASE;", "CASE vSINT OF -128..-128: ELSE END_CASE;"} {
		rightBody(t, s)
	}
	for _, s := range []string{
		"CASE vINT OF ^32768: END_CASE;", "CASE vINT OF ^-32769: END_CASE;", "CASE vINT OF 1..^32768: END_CASE;", "CASE vINT OF ^32768..40000: END_CASE;", "CASE vUINT OF ^-1..0: END_CASE;",
		"CASE vINT OF ^DINT#1: END_CASE;", "CASE vINT OF 1..^UINT#2: END_CASE;", "CASE vINT OF ^TRUE: END_CASE;", "CASE vINT OF ^T#1s: END_CASE;", "CASE vINT OF ^-INT#1: END_CASE;", "CASE vINT OF 1, 2..^WORD#1, 5..4: END_CASE;",
		"CASE vINT OF ^1..0: END_CASE;", "CASE vINT OF ^-1..-2: END_CASE;", "CASE vINT OF ^INT#1..INT#0: END_CASE;", "CASE vINT OF 1, 2, ^4..3: z := 1; END_CASE;", "CASE vINT OF 1: vINT := 1; ^4..3: z := 1; END_CASE;", "CASE 5 OF ^2147483648: END_CASE;", "CASE vINT OF 2..^40000, 1..0: END_CASE;",
	} {
		wrongBody(t, s, api.ErrConst)
	}
}

// P16.2: blocks' calls.
func TestCalls(t *testing.T) {
	for _, name := range []string{"TON", "TOF", "TP", "CTU", "CTD", "CTUD", "R_TRIG", "F_TRIG", "SR", "RS"} {
		in, out := types.Pins(name)
		var all []string
		for _, pin := range in {
			kind := types.Pin(name, pin)
			all = append(all, pin+" := v"+words[kind])
			rightBody(t, "b"+name+"("+pin+" := v"+words[kind]+");")
			wrongBody(t, "b"+name+"("+pin+" := ^v"+words[kind%11+1]+");", api.ErrKind)
			wrongBody(t, "b"+name+"("+pin+" := v"+words[kind]+", ^"+pin+" := z);", api.ErrCall)
			wrongBody(t, "b"+name+"("+pin+" := ^z, "+pin+" := z);", api.ErrName)
			wrongBody(t, "b"+name+"("+strings.Join(all, ", ")+", ^"+pin+" := z, Z := z);", api.ErrCall)
		}
		rightBody(t, "b"+name+"(); b"+name+"("+strings.Join(all, ", ")+");")
		for _, pin := range append(out, "z", "in", "Z", "v1") {
			wrongBody(t, "b"+name+"(^"+pin+" := z);", api.ErrCall)
		}
	}
	for _, s := range []string{"^z();", "^vINT();", "^aINT();", "^q();", "^TON();", "^s();", "^ABS();", "^z(IN := y);"} {
		wrongBody(t, s, api.ErrCall)
	}
	rightBody(t, "bTON(PT := T#5s, IN := 1); bCTU(PV := -32768, CU := vINT > 3);")
	wrongBody(t, "bTON(PT := ^5);", api.ErrKind)
	wrongBody(t, "bCTU(PV := ^32768);", api.ErrConst)
	wrongBody(t, "bCTU(PV := 1, ^Q := z, CU := z);", api.ErrCall)
	wrongBody(t, "bCTU(PV := vINT + ^vDINT, Q := z);", api.ErrKind)
}

// rightCode, wrongCode: instructions that are taken; that are wrong at the ^.
func rightCode(t *testing.T, s string) {
	t.Helper()
	p, _ := instructions(t, s)
	if e := Check(p); e != nil {
		t.Errorf("P16.3: %s: %v", s, e)
	}
}

func wrongCode(t *testing.T, s string, want api.Errno) {
	t.Helper()
	p, at := instructions(t, s)
	if e := Check(p); !wrongAt(e, at, want) {
		t.Errorf("P16.3: %s: %v; want %v at %d", s, e, want, at)
	}
}

// operations: of IL, with the kinds that they are of.
var operations = map[string][]int{
	"AND": bits, "ANDN": bits, "OR": bits, "ORN": bits, "XOR": bits, "XORN": bits,
	"ADD": amounts, "SUB": amounts, "MUL": integers, "DIV": integers, "MOD": integers,
	"GT": scalars, "GE": scalars, "EQ": scalars, "NE": scalars, "LE": scalars, "LT": scalars,
}

// P16.3: the operators that there are, and what may stand behind them.
func TestOperandsOfInstructions(t *testing.T) {
	rightCode(t, "")
	known := il.Ops()
	if len(known) != 51 {
		t.Errorf("%d operators", len(known))
	}
	for _, op := range append(known, "FOO", "ld", "NOP", "LD(", "ST(", "S(", "NOT(", "RET(", "JMP(", "CALN", "JMPN", "RETN", "SN", "RN", "NOTN", "ADDN", "GTN", "LDC", "MODN", "TRUE1", "") {
		at := len(op) + 3
		plain := api.Expr{Op: api.ExLit, N: 1, At: 50}
		name := api.Expr{Op: api.ExVar, Name: "go", At: 51}
		arg := api.Arg{Name: "IN", E: plain, At: 52}
		sum := api.Expr{Op: api.ExAdd, L: []api.Expr{plain, plain}, At: 53}
		field, element := name, name
		field.Field, element.L = "x", []api.Expr{plain}
		for i, in := range []api.Inst{
			{Op: op}, {Op: op, E: []api.Expr{plain}}, {Op: op, E: []api.Expr{name}}, {Op: op, E: []api.Expr{name}, Args: []api.Arg{arg}}, {Op: op, Args: []api.Arg{arg}},
			{Op: op, E: []api.Expr{plain, plain}}, {Op: op, E: []api.Expr{sum}}, {Op: op, E: []api.Expr{field}}, {Op: op, E: []api.Expr{element}}, {Op: op, E: []api.Expr{name}, Args: []api.Arg{arg, {Name: "PT", E: sum}}},
		} {
			in.At = at
			var may []int
			switch base, opens := strings.CutSuffix(op, "("); {
			case op == "LD" || op == "LDN" || op == "ST" || op == "STN" || op == "S" || op == "R" || operations[op] != nil:
				may = []int{1, 2, 7, 8}
			case opens && operations[base] != nil:
				may = []int{0, 1, 2, 7, 8}
			case op == "NOT" || op == ")" || strings.HasPrefix(op, "RET") && op != "RETN" && op != "RET(":
				may = []int{0}
			case op == "JMP" || op == "JMPC" || op == "JMPCN":
				may = []int{2}
			case op == "CAL" || op == "CALC" || op == "CALCN":
				may = []int{2, 3}
			}
			taken := slices.Contains(may, i)
			e := Check(api.Prog{Il: true, Code: []api.Inst{{Label: "go", At: 1}, in}})
			if wrongAt(e, at, api.ErrOp) == taken {
				t.Errorf("P16.3: %q, %d: %v", op, i, e)
			}
		}
	}
	for _, s := range []string{"^LD", "^FOO vINT", "LD z|^FOO", "^NOT vBOOL", "LD vINT|^ST", "LD vINT|^ADD", "^JMP", "^JMPC", "^CAL", "^CALCN", "^RET vINT", "LD z|JMP a|a: LD z|^NOP", "^LD( vINT"} {
		wrongCode(t, s, api.ErrOp)
	}
	for _, s := range []string{"a: LD 1|^a: LD 2", "a:|b:|^a:", "^JMP z", "LD TRUE|^JMPC z", "LD TRUE|^JMPCN z|FOO", "^JMP a|LD z|FOO", "a:|^a: FOO", "LD z|^JMP vINT", "a: JMP a|^a: JMP b", "^JMP b|a:|a:"} {
		wrongCode(t, s, api.ErrLabel)
	}
	for _, s := range []string{"a: JMP a", "JMP a|a:", "a:|b: JMP b|JMP a", "vINT: JMP vINT"} {
		rightCode(t, s)
	}
}

// P16.3: the accumulator's kind, with each operation, of each kind.
func TestAccumulator(t *testing.T) {
	for _, k := range scalars {
		w, other := words[k], words[k%11+1]
		v := "v" + w
		rightCode(t, "LD "+v+"|ST "+v+"|ST q.f"+w+"|ST a"+w+"[vINT]|ST "+v)
		wrongCode(t, "LD "+v+"|^ST v"+other, api.ErrKind)
		wrongCode(t, "LD "+v+"|ST ^z", api.ErrName)
		wrongCode(t, "LD "+v+"|ST ^bTON.Q", api.ErrTarget)
		if slices.Contains(bits, k) {
			rightCode(t, "LDN "+v+"|STN "+v+"|NOT|ST "+v)
			wrongCode(t, "LDN "+v+"|^STN v"+other, api.ErrKind)
		} else {
			wrongCode(t, "^LDN "+v+"|FOO: ST z", api.ErrKind)
			wrongCode(t, "LD "+v+"|^STN "+v, api.ErrKind)
			wrongCode(t, "LD "+v+"|^NOT", api.ErrKind)
		}
		if k != api.KBool {
			for _, s := range []string{"^S vBOOL", "^R vBOOL", "^JMPC a|a:", "^JMPCN a|a:", "^RETC", "^RETCN", "^CALC bTON()", "^CALCN bTON()", "^CALC z(z := z)"} {
				wrongCode(t, "LD "+v+"|"+s, api.ErrKind)
			}
			wrongCode(t, "LD "+v+"|^S "+v, api.ErrKind)
			wrongCode(t, "LD "+v+"|^R "+v, api.ErrKind)
			wrongCode(t, "LD vBOOL|^S "+v, api.ErrKind)
			wrongCode(t, "LD vBOOL|^R "+v, api.ErrKind)
		}
		for op, may := range operations {
			then := v
			if op[0] == 'G' || op[0] == 'E' || op[0] == 'L' || op == "NE" {
				then = "vBOOL"
			}
			if !slices.Contains(may, k) {
				wrongCode(t, "LD "+v+"|^"+op+" "+v, api.ErrKind)
				wrongCode(t, "LD "+v+"|^"+op+"( "+v+"|ST z|)", api.ErrKind)
				wrongCode(t, "LD "+v+"|^"+op+"(|)", api.ErrKind)
				wrongCode(t, "LD "+v+"|"+op+" ^z", api.ErrName)
				continue
			}
			rightCode(t, "LD "+v+"|"+op+" "+v+"|ST "+then)
			rightCode(t, "LD "+v+"|"+op+"( "+v+"|)|ST "+then)
			rightCode(t, "LD "+v+"|"+op+"(|LD "+v+"|)|ST "+then)
			wrongCode(t, "LD "+v+"|"+op+" ^v"+other, api.ErrKind)
			wrongCode(t, "LD "+v+"|"+op+"( v"+other+"|^)", api.ErrKind)
			wrongCode(t, "LD "+v+"|"+op+"(|^)", api.ErrKind)
			wrongCode(t, "LD "+v+"|^"+op+"|FOO", api.ErrOp)
		}
	}
	for _, s := range []string{"LD 5|ST vDINT", "LD -5|ST vDINT", "LD INT#5|ST vINT", "LD -INT#5|ST vINT", "LD T#5s|ST vTIME", "LD vINT|ADD 32767|EQ 5|ST vBOOL", "LD vTIME|SUB T#1s|GT T#-1s|ST vBOOL", "LD vBOOL|AND 1", "LD vBOOL|CAL bTON(IN := vBOOL, PT := T#1s)|ST vBOOL", "LD vINT|CAL bTON()|JMP a|ST vINT|RET|ST vINT|a:", "CAL bTON()|RET|JMP a|a: CAL bTON()|JMP a", "a: LD 1|b: LDN vBOOL|RETC|RETCN|CALC bTON()|CALCN bCTU(PV := aINT[1])|JMPC a|JMPCN b|S vBOOL|R q.fBOOL|S mx"} {
		rightCode(t, s)
	}
	for _, use := range []string{"ST vINT", "STN vBOOL", "S vBOOL", "R vBOOL", "NOT", "ADD vINT", "AND vBOOL", "GT vINT", "ADD( vINT|)", "LT(|LD vINT|)", "JMPC a", "JMPCN a", "RETC", "RETCN", "CALC bTON()", "CALCN bTON()"} {
		wrongCode(t, "^"+use+"|a:", api.ErrKind)
		wrongCode(t, "CAL bTON()|^"+use+"|a:", api.ErrKind)
		wrongCode(t, "LD vBOOL|^b: "+use+"|a:", api.ErrKind)
		wrongCode(t, "LD vINT|b:|^"+use+"|a:", api.ErrKind)
		wrongCode(t, "LD vBOOL|b: JMP b|^"+use+"|a:", api.ErrKind)
	}
	for _, s := range []string{"LD vINT|ADD ^40000", "LD vINT|AND ^40000", "LD vBOOL|AND ^2", "LD vINT|LT ^-32769", "LD ^4294967295", "LD aINT[^4294967295]"} {
		wrongCode(t, s, api.ErrConst)
	}
	for _, s := range []string{"LD ^z", "LDN ^z", "ST ^z", "S ^z", "ADD ^z", "LD vINT|AND ^z", "LD vINT|ST aINT[^z]", "LD ^q.z", "ADD( ^z|)", "LD 1|LD ^z|LD y"} {
		wrongCode(t, s, api.ErrName)
	}
	for _, s := range []string{"LD vBOOL|ST ^ix", "LD vBOOL|S ^ix", "LD vINT|S ^iw", "LD vINT|ST ^5", "LD vINT|ST ^-5", "ST ^aINT", "ST ^bTON.IN", "LD vINT|R ^q", "LD vINT|ST ^vINT[1]"} {
		wrongCode(t, s, api.ErrTarget)
	}
	for _, s := range []string{"LD ^aINT", "LD ^q", "LD ^bTON", "LD ^vINT[1]", "LD aINT[^vBOOL]", "LD vTIME|ADD ^5", "LD ^-TRUE", "LD vBOOL|CALC bTON(IN := ^vINT)"} {
		wrongCode(t, s, api.ErrKind)
	}
	for _, s := range []string{"^CAL z(IN := y)", "^CAL vINT()", "LD 1|^CAL q()", "CAL bTON(^Q := z)", "CAL bTON(IN := 1, ^IN := z)", "LD TRUE|^CALC TON()"} {
		wrongCode(t, s, api.ErrCall)
	}
}

// P16.3: brackets.
func TestBrackets(t *testing.T) {
	for _, s := range []string{
		"LD 2|MUL( 3|ADD 4|)|ST vDINT", "LD vBOOL|AND( vINT|GT 5|OR(|LDN vBOOL|)|)|ST vBOOL", "LD vINT|GT( vINT|)|AND( vBOOL|NOT|)|JMPC a|a:",
		"LD vINT|ADD( vINT|ST vINT|LD vBOOL|S qx|R mx|STN mx|LD vINT|MUL( vINT|)|)|ST vINT", "LD vINT|LT( vINT|EQ( vINT|)|LD vINT|)|ST vBOOL", "a: LD 1|ADD( 1|)|b:",
	} {
		rightCode(t, s)
	}
	deep := 300
	rightCode(t, "LD vINT"+strings.Repeat("|ADD( vINT", deep)+strings.Repeat("|)", deep)+"|ST vINT")
	wrongCode(t, "LD vINT|^ADD( vINT"+strings.Repeat("|ADD( vINT", deep)+strings.Repeat("|)", deep), api.ErrBracket)
	wrongCode(t, "LD vINT"+strings.Repeat("|ADD( vINT", deep)+strings.Repeat("|)", deep)+"|^)", api.ErrBracket)
	for _, s := range []string{"^)", "LD 1|^)", "^)|ST z", "LD 1|ADD( 1|)|^)|LD z", "LD vINT|^ADD( vINT", "LD vINT|^ADD(", "LD vINT|^ADD( vINT|SUB( vINT|)", "LD vINT|^ADD( vINT|SUB( vINT", "LD vINT|ADD( vINT|)|^ADD( vINT|SUB( vINT|)"} {
		wrongCode(t, s, api.ErrBracket)
	}
	for _, s := range []string{"^a:", "^a: LD 1", "^JMP b", "^JMPC b", "^JMPCN b", "^CAL bTON()", "^CALC bTON()", "^CALCN z(z := z)", "^RET", "^RETC", "^RETCN", "^a: JMPC b"} {
		wrongCode(t, "b: LD vBOOL|AND( vBOOL|"+s+"|)", api.ErrBracket)
		wrongCode(t, "b: LD vINT|ADD( vINT|ADD(|"+s+"|)|)", api.ErrBracket)
		wrongCode(t, "b: LD vINT|ADD( vINT|ADD(|LD vINT|)|"+s+"|)", api.ErrBracket)
	}
	wrongCode(t, "LD vINT|ADD( vINT|ST ^z", api.ErrName)
	wrongCode(t, "LD vINT|ADD( 5|^)", api.ErrKind)
	wrongCode(t, "LD vINT|ADD( vINT|GT 5|^)", api.ErrKind)
	wrongCode(t, "LD vINT|ADD(|^ADD vINT|)", api.ErrKind)
	wrongCode(t, "LD vINT|ADD(|^ST vINT|)", api.ErrKind)
	wrongCode(t, "LD vINT|GT( vINT|)|^ST vINT", api.ErrKind)
	wrongCode(t, "LD vINT|ADD( vINT|LD vBOOL|^)|ST z", api.ErrKind)
}
