package sem

import (
	"math"
	"slices"
	"strings"
	"testing"

	"rung/api"
	"rung/fb"
	"rung/types"
)

// P18.3: assignments, IF, CASE, WHILE, REPEAT, EXIT, RETURN.
func TestStatements(t *testing.T) {
	const xy = "VAR x : INT; y : INT; END_VAR "
	scans(t, "P18.3", 99, []life{
		{"VAR x : SINT; END_VAR x := x + 100;", []int64{100}, []int64{-56}, 0, 1},
		{"VAR x : SINT; y : INT; END_VAR y := SINT_TO_INT(x) * 300; x := -x;", []int64{-128}, []int64{-128, 27136}, 0, 2},
		{"VAR x : UDINT; END_VAR x := x - 1;", []int64{0}, []int64{4294967295}, 0, 1},
		{"VAR x : USINT; a : ARRAY[0..0] OF SINT; q : pair; END_VAR x := 200 + 100; a[0] := 100 + 100; q.x := 30000 + 30000; q.f := NOT 0;", nil, []int64{44, -56, -5536, 1}, 0, 4},
		{"VAR t : TIME; b : BOOL; END_VAR t := t + T#1s; b := t > T#1s;", []int64{1}, []int64{1001, 1}, 0, 2},
		{"VAR q : pair; r : pair; END_VAR r.x := q.x * 2; r.f := r.x > q.x; q.x := 9;", []int64{2, 0}, []int64{9, 0, 4, 1}, 0, 3},
		{"VAR q AT %QX0.0 : BOOL; i AT %IX0.0 : BOOL; w AT %QW0 : WORD; END_VAR q := i; w := w OR 16#10;", []int64{0, 1, 3}, []int64{1, 1, 19}, 0, 2},
		{"VAR a : ARRAY[-2..-1] OF INT; END_VAR a[-1] := 4; a[-2] := a[-1] + 1;", nil, []int64{5, 4}, 0, 2},
		{"VAR a : ARRAY[2..3] OF INT; i : INT; END_VAR a[i] := a[i - 1] + 5;", []int64{7, 0, 3}, []int64{7, 12, 3}, 0, 1},
		{"VAR a : ARRAY[0..2] OF USINT; END_VAR a[a[a[0]]] := 7;", []int64{1, 2, 0}, []int64{1, 2, 7}, 0, 1},
		{"VAR a : ARRAY[0..1] OF INT; END_VAR a[a[0]] := a[0] + 1; a[a[0]] := 9;", []int64{0, 5}, []int64{1, 9}, 0, 2},
		{"VAR a : ARRAY[-2147483648..-2147483647] OF INT; b : ARRAY[2147483647..2147483647] OF INT; END_VAR a[-2147483648] := 1; a[-2147483647] := 2; b[2147483647] := 3;", nil, []int64{1, 2, 3}, 0, 3},
		{"VAR a : ARRAY[0..0] OF INT; u : UDINT; END_VAR a[u] := 3;", []int64{0, 1 << 31}, []int64{0, 1 << 31}, api.FaultIndex, 1},
		{"VAR a : ARRAY[-1..-1] OF INT; u : UDINT; END_VAR a[u] := 3;", []int64{0, 1<<32 - 1}, []int64{0, 1<<32 - 1}, api.FaultIndex, 1},
		{"VAR a : ARRAY[255..255] OF INT; b : BYTE; END_VAR a[b] := 3;", []int64{0, 255}, []int64{3, 255}, 0, 1},

		{xy + "IF x = 1 THEN y := 1; ELSIF x = 2 THEN y := 2; ELSE y := 3; END_IF;", []int64{1}, []int64{1, 1}, 0, 2},
		{xy + "IF x = 1 THEN y := 1; ELSIF x = 2 THEN y := 2; ELSE y := 3; END_IF;", []int64{2}, []int64{2, 2}, 0, 2},
		{xy + "IF x = 1 THEN y := 1; ELSIF x = 2 THEN y := 2; ELSE y := 3; END_IF;", []int64{3}, []int64{3, 3}, 0, 2},
		{xy + "IF x = 1 THEN y := 1; ELSIF x = 2 THEN y := 2; END_IF;", []int64{3}, []int64{3, 0}, 0, 1},
		{xy + "IF x > 0 THEN y := 1; x := 0; ELSIF x = 0 THEN y := 2; END_IF;", []int64{3}, []int64{0, 1}, 0, 3},
		{xy + "IF TRUE THEN END_IF; IF FALSE THEN ELSE END_IF; y := 1;", nil, []int64{0, 1}, 0, 3},

		{xy + "IF NOT 1 THEN y := 1; ELSIF 1 AND NOT 0 THEN y := 2; END_IF;", nil, []int64{0, 2}, 0, 2},

		{xy + "CASE x OF 1, 5: y := 1; -3..0: y := 2; ELSE y := 3; END_CASE;", []int64{5}, []int64{5, 1}, 0, 2},
		{xy + "CASE x OF 1, 5: y := 1; -3..0: y := 2; ELSE y := 3; END_CASE;", []int64{-4}, []int64{-4, 3}, 0, 2},
		{xy + "CASE x OF 1, 5: y := 1; -3..0: y := 2; ELSE y := 3; END_CASE;", []int64{-3}, []int64{-3, 2}, 0, 2},
		{xy + "CASE x OF 1, 5: y := 1; -3..0: y := 2; ELSE y := 3; END_CASE;", []int64{0}, []int64{0, 2}, 0, 2},
		{xy + "CASE x OF 1, 5: y := 1; -3..0: y := 2; ELSE y := 3; END_CASE;", []int64{4}, []int64{4, 3}, 0, 2},
		{xy + "CASE x OF 0..9: y := 1; 5: y := 2; END_CASE;", []int64{5}, []int64{5, 1}, 0, 2},
		{xy + "CASE x OF 5: y := 2; 0..9: y := 1; END_CASE;", []int64{5}, []int64{5, 2}, 0, 2},
		{xy + "CASE x OF 0..9: y := 1; END_CASE;", []int64{10}, []int64{10, 0}, 0, 1},
		{xy + "CASE x OF 1: x := 2; 2: y := 2; ELSE y := 3; END_CASE;", []int64{1}, []int64{2, 0}, 0, 2},
		{xy + "CASE x OF 1: ELSE y := 3; END_CASE;", []int64{1}, []int64{1, 0}, 0, 1},
		{xy + "CASE x + 1 OF INT#-32768: y := 1; INT#32767: y := 2; END_CASE;", []int64{32767}, []int64{32767, 1}, 0, 2},
		{"VAR u : UDINT; y : INT; END_VAR CASE u OF 4294967295: y := 1; 0..4294967294: y := 2; END_CASE;", []int64{-1}, []int64{4294967295, 1}, 0, 2},

		{xy + "WHILE x < 3 DO x := x + 1; END_WHILE;", nil, []int64{3, 0}, 0, 8},
		{xy + "WHILE x < 3 DO x := x + 1; END_WHILE;", []int64{3}, []int64{3, 0}, 0, 2},
		{xy + "REPEAT x := x + 1; UNTIL x >= 3 END_REPEAT;", nil, []int64{3, 0}, 0, 7},
		{xy + "REPEAT x := x + 1; UNTIL x >= 3 END_REPEAT;", []int64{7}, []int64{8, 0}, 0, 3},

		{xy + "WHILE NOT 1 DO x := 1; END_WHILE; REPEAT y := y + 1; UNTIL NOT 0 END_REPEAT;", nil, []int64{0, 1}, 0, 5},

		{xy + "WHILE TRUE DO IF x = 2 THEN EXIT; END_IF; x := x + 1; END_WHILE; y := 9;", nil, []int64{2, 9}, 0, 11},
		{xy + "WHILE x < 2 DO x := x + 1; REPEAT EXIT; UNTIL FALSE END_REPEAT; y := y + 1; END_WHILE;", nil, []int64{2, 2}, 0, 12},
		{xy + "WHILE x < 2 DO x := x + 1; CASE x OF 1: EXIT; END_CASE; y := 5; END_WHILE; y := y + 2;", nil, []int64{1, 2}, 0, 6},
		{xy + "FOR x := 1 TO 3 DO WHILE TRUE DO y := y + 1; EXIT; END_WHILE; IF x = 2 THEN EXIT; END_IF; END_FOR;", nil, []int64{2, 2}, 0, 14},
		{xy + "IF TRUE THEN RETURN; END_IF; y := 1;", nil, []int64{0, 0}, 0, 2},
		{xy + "CASE x OF 0: RETURN; END_CASE; y := 1;", nil, []int64{0, 0}, 0, 2},
		{xy + "WHILE TRUE DO REPEAT FOR x := 1 TO 9 DO IF x = 2 THEN RETURN; END_IF; END_FOR; UNTIL FALSE END_REPEAT; END_WHILE; y := 1;", nil, []int64{2, 0}, 0, 9},
		{xy + "RETURN;", []int64{5, 6}, []int64{5, 6}, 0, 1},
	})
}

// P18.3: FOR: its bounds are reckoned once, the variable is a cell like others.
func TestFor(t *testing.T) {
	kinds := func(kind, loop string) string {
		return "VAR i : " + kind + "; n : INT; END_VAR FOR i := " + loop + " DO n := n + 1; END_FOR;"
	}
	const is = "VAR i : INT; s : INT; END_VAR "
	scans(t, "P18.3", 9999, []life{
		{is + "FOR i := 1 TO 4 DO s := s + i; END_FOR;", nil, []int64{5, 10}, 0, 10},
		{is + "FOR i := 1 TO 4 BY 2 DO s := s + i; END_FOR;", nil, []int64{5, 4}, 0, 6},
		{is + "FOR i := 1 TO 5 BY 4 DO s := s + i; END_FOR;", nil, []int64{9, 6}, 0, 6},
		{is + "FOR i := 5 TO 1 BY -2 DO s := s + i; END_FOR;", nil, []int64{-1, 9}, 0, 8},
		{is + "FOR i := 5 TO 5 BY -1 DO s := s + i; END_FOR;", nil, []int64{4, 5}, 0, 4},
		{is + "FOR i := 4 TO 5 BY -1 DO s := s + i; END_FOR;", nil, []int64{4, 0}, 0, 2},
		{is + "FOR i := 5 TO 4 DO s := s + i; END_FOR;", nil, []int64{5, 0}, 0, 2},
		{is + "FOR i := 6 TO 5 BY 0 DO s := s + i; END_FOR;", nil, []int64{6, 0}, 0, 2},
		{is + "FOR i := 1 TO 5 BY 0 DO s := s + 1; IF s = 3 THEN i := 6; END_IF; END_FOR;", nil, []int64{6, 3}, 0, 12},
		{is + "FOR i := i + 2 TO i + 5 BY i + 1 DO END_FOR;", []int64{1}, []int64{7, 0}, 0, 4},
		{is + "FOR i := 1 TO s DO s := s - 1; END_FOR;", []int64{0, 3}, []int64{4, 0}, 0, 8},
		{is + "FOR i := 0 TO 6 BY s DO s := 1; END_FOR;", []int64{0, 3}, []int64{9, 1}, 0, 8},
		{is + "FOR i := 0 TO 6 BY s DO s := -1; END_FOR;", []int64{0, 3}, []int64{9, -1}, 0, 8},
		{is + "FOR i := 1 TO 9 DO i := i + 1; s := s + i; END_FOR;", nil, []int64{11, 30}, 0, 17},
		{is + "FOR i := 9 TO 1 BY -1 DO i := -5; s := s + 1; END_FOR;", nil, []int64{-6, 1}, 0, 5},
		{is + "FOR i := 1 TO 9 DO i := 32767; s := s + 1; END_FOR; s := s + 1;", nil, []int64{32767, 2}, 0, 5},
		{is + "FOR i := -32768 TO 32767 BY 32767 DO s := s + 1; END_FOR;", nil, []int64{32766, 3}, 0, 7},
		{is + "FOR i := 32767 TO -32768 BY -32768 DO s := s + 1; END_FOR;", nil, []int64{-1, 2}, 0, 5},
		{is + "FOR i := 32767 TO -32768 BY -32767 DO s := s + 1; END_FOR;", nil, []int64{-32767, 3}, 0, 7},
		{is + "FOR i := 1 TO 2 DO FOR i := 1 TO 3 DO s := s + 1; END_FOR; END_FOR;", nil, []int64{5, 3}, 0, 11},
		{is + "FOR i := 1 TO 9 DO IF i = 3 THEN EXIT; END_IF; s := i; END_FOR;", nil, []int64{3, 2}, 0, 10},
		{kinds("SINT", "126 TO 127"), nil, []int64{127, 2}, 0, 5},
		{kinds("SINT", "126 TO 127 BY 2"), nil, []int64{126, 1}, 0, 3},
		{kinds("SINT", "-127 TO -128 BY -1"), nil, []int64{-128, 2}, 0, 5},
		{kinds("SINT", "125 TO 126"), nil, []int64{127, 2}, 0, 6},
		{kinds("SINT", "-128 TO 127"), nil, []int64{127, 256}, 0, 513},
		{kinds("USINT", "254 TO 255"), nil, []int64{255, 2}, 0, 5},
		{kinds("USINT", "1 TO 0"), nil, []int64{1, 0}, 0, 2},
		{kinds("USINT", "0 TO 255"), nil, []int64{255, 256}, 0, 513},
		{kinds("USINT", "0 TO 255 BY 255"), nil, []int64{255, 2}, 0, 5},
		{kinds("USINT", "200 + 100 TO 200 + 101 BY 200 + 57"), nil, []int64{46, 2}, 0, 6},
		{kinds("INT", "32766 TO 32767"), nil, []int64{32767, 2}, 0, 5},
		{kinds("UINT", "65534 TO 65535"), nil, []int64{65535, 2}, 0, 5},
		{kinds("DINT", "2147483646 TO 2147483647"), nil, []int64{2147483647, 2}, 0, 5},
		{kinds("DINT", "-2147483647 TO -2147483648 BY -1"), nil, []int64{-2147483648, 2}, 0, 5},
		{kinds("DINT", "-2147483648 TO 2147483647 BY 2147483647"), nil, []int64{2147483646, 3}, 0, 7},
		{kinds("UDINT", "4294967294 TO 4294967295"), nil, []int64{4294967295, 2}, 0, 5},
		{kinds("UDINT", "1 TO 4294967295 BY 4294967295"), nil, []int64{1, 1}, 0, 3},
	})
}

// P18.3: a block's call assigns its arguments one by one; pins that aren't told
// stay.
func TestArguments(t *testing.T) {
	const vars = "VAR c : CTU; x : INT; z : INT; END_VAR "
	scans(t, "P18.3", 99, []life{
		{vars + "c(CU := TRUE, PV := 1); x := c.CV;", nil, []int64{1, 0, 1, 1, 1, 1, 0, 0, 1, 0}, 0, 2},
		{vars + "c(PV := 30000 + 30000, R := NOT 0); x := c.PV;", nil, []int64{0, 1, -5536, 1, 0, 0, 0, 0, -5536, 0}, 0, 2},
		{vars + "c();", []int64{1, 0, 2, 0, 1}, []int64{1, 0, 2, 1, 2, 1, 0, 0, 0, 0}, 0, 1},
		{vars + "c(R := TRUE);", []int64{1, 0, 2, 1, 9}, []int64{1, 1, 2, 0, 0, 1, 0, 0, 0, 0}, 0, 1},
		{vars + "c(PV := c.PV + 1, CU := c.PV = 3);", []int64{0, 0, 2}, []int64{1, 0, 3, 0, 1, 1, 0, 0, 0, 0}, 0, 1},
		{vars + "c(CU := c.PV = 3, PV := c.PV + 1);", []int64{0, 0, 2}, []int64{0, 0, 3, 0, 0, 0, 0, 0, 0, 0}, 0, 1},
		{vars + "c(PV := c.CV + 5, R := c.Q);", []int64{0, 0, 2, 1, 7}, []int64{0, 1, 12, 0, 0, 0, 0, 0, 0, 0}, 0, 1},
		{vars + "c(PV := 5, CU := 1 / z = 0, R := TRUE); x := 1;", []int64{1, 0, 7, 1, 8}, []int64{1, 0, 5, 1, 8, 0, 0, 0, 0, 0}, api.FaultZero, 1},
		{vars + "c(CU := 1 / z = 0, PV := 5); x := 1;", []int64{1, 0, 7, 1, 8}, []int64{1, 0, 7, 1, 8, 0, 0, 0, 0, 0}, api.FaultZero, 1},
		{"VAR x : INT; s : SR; r : RS; END_VAR s(S1 := TRUE); r(R1 := s.Q1, S := TRUE);", nil, []int64{0, 1, 0, 1, 0, 0, 0, 1, 1, 0, 0, 0, 0}, 0, 2},
		{"VAR a : R_TRIG; b : R_TRIG; n : INT; END_VAR a(CLK := TRUE); b(CLK := a.Q); IF b.Q THEN n := 1; END_IF;", nil, []int64{1, 1, 1, 0, 0, 1, 1, 1, 0, 0, 1}, 0, 4},
		{"VAR a : F_TRIG; i : INT; END_VAR FOR i := 1 TO 3 DO a(CLK := i = 1); END_FOR;", nil, []int64{0, 0, 0, 0, 0, 4}, 0, 8},
	})
}

// P18.3: each block's step is fb.Step's, over its pins and keeps, and the clock.
func TestBlocks(t *testing.T) {
	some := []int64{0, 1, 2, -1, 9, 32767, -32768, math.MaxInt32, math.MinInt32, 1 << 40, 10, 1}
	for _, block := range []string{"TON", "TOF", "TP", "CTU", "CTD", "CTUD", "R_TRIG", "F_TRIG", "SR", "RS"} {
		inputs, outputs := types.Pins(block)
		var args []string
		for _, name := range inputs {
			args = append(args, name+" := o."+name)
		}
		slices.Reverse(args)
		p := program(t, "VAR before : INT; b : "+block+"; behind : INT; o : "+block+"; END_VAR b("+strings.Join(args, ", ")+");")
		size := len(inputs) + len(outputs) + 3
		cells := make([]int64, 2*size+2)
		for n := range 400 {
			for i := range cells {
				cells[i] = some[(7*n+3*i+n/(i+1))%len(some)]
			}
			now := some[n%len(some)] + int64(n)
			given, _, _ := Scan(p, cells, now, 0) // wrapped, and no more
			pins, keeps := given[size+2:], given[size-2:size+1]
			out, keep := fb.Step(block, pins[:len(inputs)], [3]int64(keeps), given[1+len(inputs):][:len(outputs)], now)
			want := slices.Concat(given[:1], pins[:len(inputs)], out, keep[:], given[size+1:])
			got, fault, steps := Scan(p, cells, now, 9)
			if !slices.Equal(got, want) || fault != 0 || steps != 1 {
				t.Fatalf("P18.3: %s at %d: %v: %v, %d, %d; want %v", block, now, given, got, fault, steps, want)
			}
		}
	}
}

// P18.1, P18.3: a timer, scan by scan, over the clock's wrap-round.
func TestTimer(t *testing.T) {
	p := program(t, "VAR t1 : TON; q : BOOL; END_VAR t1(IN := TRUE, PT := T#10ms); q := t1.Q;")
	for _, begin := range []int64{5, 0, math.MaxInt32 - 4, math.MinInt32, 1<<32 - 3, 1 << 40, math.MinInt64, math.MaxInt64 - 20} {
		var cells []int64
		for _, x := range [][3]int64{{0, 0, 0}, {9, 0, 9}, {10, 1, 10}, {11, 1, 10}} {
			cells, _, _ = Scan(p, cells, begin+x[0], 9)
			if cells[7] != x[1] || cells[3] != x[2] {
				t.Errorf("P18.3: from %d on, %d: %v", begin, x[0], cells)
			}
		}
	}
}
