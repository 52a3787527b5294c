package lowil_test

import (
	"math/rand"
	"slices"
	"testing"

	"rung/lowst"
	"rung/vm"
)

// pairs: a program in both languages.
var pairs = []struct{ text, lines string }{
	{"x := x + y; y := 10 / x;", "LD x|ADD y|ST x|LD INT#10|DIV x|ST y"},
	{"x := (x - y) * (y - (x MOD 3)) - y;", "LD x|SUB y|MUL( y|SUB( x|MOD 3|)|)|SUB y|ST x"},
	{"x := -y;", "LD INT#0|SUB y|ST x"},
	{"b := (b OR c) AND NOT (x < y XOR f[0]);", "LD b|OR c|ANDN(|LD x|LT y|XOR f[0]|)|ST b"},
	{"w := NOT w AND 15 OR 64; b := w <> 64;", "LDN w|AND 15|OR 64|ST w|NE 64|ST b"},
	{"m := m + T#1s - T#3ms; c := m < T#0s;", "LD m|ADD T#1s|SUB T#3ms|ST m|LT T#0s|ST c"},
	{"a[x] := a[y] * 2; a[2] := a[2] + 1;", "LD a[y]|MUL 2|ST a[x]|LD a[2]|ADD 1|ST a[2]"},
	{"x := ABS(x); y := MAX(x, y);", "LD x|GE 0|JMPC a|LD INT#0|SUB x|ST x|a:|LD x|LE y|JMPC b|LD x|ST y|b:"},
	{"y := LIMIT(-2, x, 2); x := SEL(b, y, 9);", "LD x|ST y|LT -2|JMPCN a|LD INT#-2|ST y|a:|LD y|GT 2|JMPCN b|LD INT#2|ST y|b:|LD y|ST x|LD b|JMPCN c|LD INT#9|ST x|c:"},
	{"y := BOOL_TO_INT(b) + 1; c := INT_TO_BOOL(x);", "LD b|JMPC a|LD INT#1|ST y|JMP b|a: LD INT#2|ST y|b: LD x|NE 0|ST c"},
	{"IF b THEN c := TRUE; END_IF; IF x > y THEN f[0] := FALSE; END_IF;", "LD b|S c|LD x|GT y|R f[0]"},
	{"IF x > 3 AND NOT b THEN y := 1; ELSIF x = 0 THEN y := 2; ELSE y := x MOD 3; END_IF;", "LD x|GT 3|ANDN b|JMPCN a|LD INT#1|ST y|JMP e|a: LD x|EQ 0|JMPCN b|LD INT#2|ST y|JMP e|b: LD x|MOD 3|ST y|e:"},
	{"CASE x OF 1, 3: y := 1; -3..0: y := 2; ELSE y := 3; END_CASE;", "LD x|EQ 1|JMPC a|LD x|EQ 3|JMPC a|LD x|GE -3|AND( x|LE 0|)|JMPC b|LD INT#3|ST y|JMP e|a: LD INT#1|ST y|JMP e|b: LD INT#2|ST y|e:"},
	{"WHILE x < 7 DO x := x + 2; IF x = y THEN EXIT; END_IF; END_WHILE;", "a: LD x|LT 7|JMPCN e|LD x|ADD 2|ST x|EQ y|JMPCN a|e:"},
	{"REPEAT x := x + 1; y := y - x; UNTIL x >= 5 OR y < 0 END_REPEAT;", "a: LD x|ADD 1|ST x|LD y|SUB x|ST y|LD x|GE 5|OR( y|LT 0|)|JMPCN a"},
	{"FOR x := y TO 9 BY 2 DO a[2] := a[2] + x; END_FOR;", "LD y|ST x|a: LD x|GT 9|JMPC e|LD a[2]|ADD x|ST a[2]|LD x|ADD 2|ST x|JMP a|e:"},
	{"FOR x := 4 TO 2 BY -1 DO a[x] := a[x] / y; END_FOR;", "LD INT#4|ST x|a: LD x|LT 2|JMPC e|LD a[x]|DIV y|ST a[x]|LD x|SUB 1|ST x|JMP a|e:"},
	{"IF b THEN RETURN; END_IF; x := 1; IF NOT c THEN RETURN; END_IF; x := 2; RETURN; x := 3;", "LD b|RETC|LD INT#1|ST x|LD c|RETCN|LD INT#2|ST x|RET|LD INT#3|ST x"},
	{"q(CU := b, PV := x + 1); c := q.Q;", "LD x|ADD 1|ST a[2]|CAL q(CU := b, PV := a[2])|LD INT#0|ST a[2]|LD q.Q|ST c"},
	{"IF x < y THEN q(CU := TRUE); ELSE q(CU := FALSE, R := c); END_IF; x := q.CV;", "LD x|LT y|CALC q(CU := TRUE)|CALCN q(CU := FALSE, R := c)|LD q.CV|ST x"},
	{"n := 1; WHILE n < 100000 DO n := n * 3; END_WHILE;", "LD UDINT#1|ST n|a: LD n|MUL 3|ST n|LT 100000|JMPC a"},
}

// P23.3: cell by cell, and with the same faults, behind scan by scan.
func TestPairs(t *testing.T) {
	r := rand.New(rand.NewSource(233))
	some := []int64{0, 0, 1, 1, 2, 3, 4, 5, -1, -3, 9, 32767, -32768}
	for _, x := range pairs {
		list, p := built(t, source(desk, x.lines))
		c, _, err := lowst.Compile("PROGRAM p VAR " + desk + " END_VAR " + x.text + " END_PROGRAM")
		if err != nil {
			t.Fatalf("%s: %v", x.text, err)
		}
		text, err := vm.New(c)
		if err != nil {
			t.Fatal(err)
		}
		ends := [4]int{}
		for range 400 {
			cells := numbers(t, "")
			for i := range cells {
				cells[i] = some[r.Intn(len(some))]
			}
			cells[7] = 0 // a[2] is where one of them keeps what it passes on
			for now := range int64(3) {
				want, fault, _ := text.Scan(cells, now, 1<<18)
				got := alike(t, list, p, cells, now, 1<<18)
				ends[fault]++
				if fault != got.fault || !slices.Equal(got.cells, want) {
					t.Fatalf("P23.3: %s of %v: %v; want %v, %d by %s", x.lines, cells, got, want, fault, x.text)
				}
				cells = want
			}
		}
		if ends[0] < 50 || ends[3] > 0 {
			t.Errorf("P23.3: %s ends %v", x.text, ends)
		}
	}
}
