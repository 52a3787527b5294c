package lowst_test

import (
	"errors"
	"reflect"
	"slices"
	"strings"
	"testing"

	"rung/api"
	"rung/check"
	"rung/code"
	"rung/il"
	"rung/lowst"
	"rung/sem"
	"rung/st"
	"rung/types"
	"rung/vm"
)

// head: of a program that has a struct pair; its variables and statements follow.
const head = "TYPE pair : STRUCT x : INT := 4; f : BOOL; END_STRUCT; END_TYPE PROGRAM p "

// wrongAt: is it just this error, and of the type that is asked for?
func wrongAt(err error, at int, want api.Errno) bool {
	x, ok := err.(*api.PlaceError)
	return ok && *x == api.PlaceError{At: at, Err: want} && errors.Is(err, want)
}

func isNone(c api.Code) bool { return len(c.Kinds) == 0 && len(c.L) == 0 }

// right fails, unless the code is such as P22.1 asks for.
func right(t *testing.T, c api.Code, p api.Prog) {
	t.Helper()
	var kinds []int
	for _, cell := range types.Cells(p) {
		kinds = append(kinds, cell.Kind)
	}
	if err := code.Verify(c); err != nil || !slices.Equal(c.Kinds, kinds) {
		t.Fatalf("P22.1: %v, kinds %v, want %v:\n%s", err, c.Kinds, kinds, code.Text(c))
	}
}

// compiled compiles variables and statements that are right.
func compiled(t *testing.T, text string) (api.Code, api.Prog) {
	t.Helper()
	c, p, err := lowst.Compile(head + text + " END_PROGRAM")
	if err != nil {
		t.Fatalf("P22.1: %s: %v", text, err)
	}
	right(t, c, p)
	return c, p
}

func machine(t *testing.T, c api.Code) *vm.Vm {
	t.Helper()
	v, err := vm.New(c)
	if err != nil {
		t.Fatalf("P22.1: %v", err)
	}
	return v
}

// P22.1: the code's kinds are the cells'; the program is as it was parsed.
func TestCompile(t *testing.T) {
	for _, text := range []string{
		"PROGRAM p END_PROGRAM",
		"PROGRAM p VAR x : INT := 3; t1 : TON; END_VAR x := x + 1; END_PROGRAM",
		head + "VAR a : ARRAY[-1..1] OF DINT; q : pair; c : CTUD; END_VAR VAR RETAIN u : UDINT; END_VAR VAR i AT %IX0.0 : BOOL; w AT %MW3 : WORD; END_VAR a[0] := -3; w := 16#FFFF; END_PROGRAM",
		"(* x *) PROGRAM p VAR b : BYTE; END_VAR ; b := (NOT (b)); END_PROGRAM",
	} {
		c, p, err := lowst.Compile(text)
		want, _ := st.Parse(text)
		if err != nil || !reflect.DeepEqual(p, want) {
			t.Fatalf("P22.1: %s: %+v, %v", text, p, err)
		}
		right(t, c, p)
		if lowered, err := lowst.Lower(want); err != nil || !reflect.DeepEqual(lowered, c) {
			t.Errorf("P22.1: %s: %v, %v", text, lowered, err)
		}
	}
}

// P22.1: st.Parse's error, then check.Check's, and nothing beside it.
func TestCompileErrors(t *testing.T) {
	const twoWrong = "PROGRAM p x := 1; END_PROGRAM y"
	for _, x := range []struct {
		text string
		at   int
		want api.Errno
	}{
		{"", 0, api.ErrParse},
		{"PROGRAM p ? END_PROGRAM", 10, api.ErrLex},
		{"PROGRAM p x END_PROGRAM", 12, api.ErrParse},
		{twoWrong, strings.LastIndex(twoWrong, "y"), api.ErrParse},
		{"PROGRAM p VAR x : INT := 99999; END_VAR END_PROGRAM", 14, api.ErrInit},
		{"PROGRAM p VAR x : INT; x : INT; END_VAR y := 1; END_PROGRAM", 23, api.ErrTwice},
		{"PROGRAM p x := 1; END_PROGRAM", 10, api.ErrName},
		{"PROGRAM p VAR x : INT; END_VAR x := TRUE; END_PROGRAM", 36, api.ErrKind},
		{"PROGRAM p VAR x : INT; END_VAR x := 40000; END_PROGRAM", 36, api.ErrConst},
		{"PROGRAM p VAR x : INT; END_VAR EXIT; END_PROGRAM", 31, api.ErrExit},
		{"PROGRAM p VAR x : INT; END_VAR x := ABS(x, x); END_PROGRAM", 36, api.ErrCall},
		{"PROGRAM p VAR x : TON; END_VAR x.Q := TRUE; END_PROGRAM", 31, api.ErrTarget},
		{"PROGRAM p " + strings.Repeat("IF TRUE THEN ", 33) + strings.Repeat("END_IF; ", 33) + "END_PROGRAM", 10 + 32*13, api.ErrDeep},
		{"PROGRAM p" + strings.Repeat(" ", api.MaxText), api.MaxText, api.ErrLexBig},
		{"PROGRAM p\nVAR x : INT; END_VAR\nLD x\nEND_PROGRAM", 34, api.ErrParse},
	} {
		c, p, err := lowst.Compile(x.text)
		if !wrongAt(err, x.at, x.want) || !isNone(c) || !reflect.DeepEqual(p, api.Prog{}) {
			t.Errorf("P22.1: %.60s: %v, %v, %+v; want %v at %d", x.text, err, c, p, x.want, x.at)
		}
		if p, err := st.Parse(x.text); err == nil {
			c, err := lowst.Lower(p)
			if !wrongAt(err, x.at, x.want) || !isNone(c) || !reflect.DeepEqual(err, check.Check(p)) {
				t.Errorf("P22.1: %.60s: %v, %v; want %v at %d", x.text, err, c, x.want, x.at)
			}
		}
	}
}

// P22.1: a program in Instruction List is ErrKind at 0, if check takes it.
func TestLowerList(t *testing.T) {
	for _, x := range []struct {
		text string
		at   int
		want api.Errno
	}{
		{"", 0, api.ErrKind},
		{"VAR x : INT; END_VAR\nLD x\nADD 1\nST x", 0, api.ErrKind},
		{"VAR x : INT; END_VAR\nLD y", 34, api.ErrName},
		{"VAR x : INT; END_VAR\nLD x\nST x\nADD 40000", 45, api.ErrConst},
	} {
		p, err := il.Parse("PROGRAM p\n" + x.text + "\nEND_PROGRAM")
		if err != nil {
			t.Fatal(err)
		}
		if c, err := lowst.Lower(p); !wrongAt(err, x.at, x.want) || !isNone(c) {
			t.Errorf("P22.1: %s: %v, %v; want %v at %d", x.text, err, c, x.want, x.at)
		}
	}
	// What else it has doesn't make it one in Structured Text.
	p, _ := st.Parse("PROGRAM p VAR x : INT; END_VAR x := 1; END_PROGRAM")
	p.Il = true
	if c, err := lowst.Lower(p); !wrongAt(err, 0, api.ErrKind) || !isNone(c) {
		t.Errorf("P22.1: %v, %v", err, c)
	}
}

// life: a program, the cells ahead of a scan; those behind it, its fault, steps.
type life struct {
	text         string
	cells, want  []int64
	fault, steps int
}

// lives are told by hand, so that they hang on no other layer.
var lives = []life{
	{"VAR x : INT; END_VAR x := 1 / 0;", []int64{3}, []int64{3}, api.FaultZero, 1},
	{"VAR x : INT; END_VAR", []int64{40000}, []int64{-25536}, 0, 0},
	{"VAR x : INT; END_VAR ;;; x := 2;; x := x * 3;", nil, []int64{6}, 0, 2},
	{"VAR x : SINT; END_VAR x := x + 100;", []int64{100}, []int64{-56}, 0, 1},
	{"VAR x : UDINT; y : BOOL; END_VAR x := x - 1; y := x > 4000000000;", nil, []int64{4294967295, 1}, 0, 2},
	{"VAR x : INT; y : INT; END_VAR x := 7 - 2 - 1; y := -x MOD 3;", nil, []int64{4, -1}, 0, 2},
	{"VAR x : INT; y : INT; END_VAR x := LIMIT(-5, y, 5); y := LIMIT(3, y, -3);", []int64{0, 99}, []int64{5, -3}, 0, 2},
	{"VAR x : INT; y : INT; b : BOOL; END_VAR x := SEL(b, 1, 2); y := SEL(NOT b, 1, 2); b := SEL(b, TRUE, FALSE);", nil, []int64{1, 2, 1}, 0, 3},
	{"VAR x : INT; y : INT; END_VAR x := MIN(x, y); y := MAX(y, 9) - ABS(-3);", []int64{5, -6}, []int64{-6, 6}, 0, 2},
	{"VAR x : BYTE; y : WORD; d : DWORD; END_VAR x := SHL(x, 1); y := ROR(y, 4); d := SHR(ROL(d, 8), 4);", []int64{0x81, 0x1234, 0x12345678}, []int64{2, 0x4123, 0x3456781}, 0, 3},
	{"VAR x : INT; y : UINT; t : TIME; b : BOOL; END_VAR y := INT_TO_UINT(x); t := INT_TO_TIME(x); b := INT_TO_BOOL(x);", []int64{-2}, []int64{-2, 65534, -2, 1}, 0, 3},
	{"VAR a : BOOL; b : BYTE; END_VAR a := NOT a AND (b = 5) XOR TRUE OR FALSE; b := NOT b;", []int64{0, 5}, []int64{0, 250}, 0, 2},
	{"VAR t : TIME; b : BOOL; END_VAR t := -t + T#1s - T#1ms; b := t >= T#999ms;", []int64{-5}, []int64{1004, 1}, 0, 2},

	{"VAR a : ARRAY[2..4] OF INT; i : UINT; END_VAR a[i] := a[i - 1] + 1; a[4] := a[2];", []int64{7, 0, 0, 3}, []int64{7, 8, 7, 3}, 0, 2},
	{"VAR a : ARRAY[2..4] OF INT; i : INT; END_VAR a[i] := 1; a[2] := 9;", []int64{0, 0, 0, 5}, []int64{0, 0, 0, 5}, api.FaultIndex, 1},
	{"VAR a : ARRAY[2..4] OF INT; i : INT; END_VAR a[2] := 9; a[i] := 1 / 0;", []int64{0, 0, 0, 1}, []int64{9, 0, 0, 1}, api.FaultIndex, 2},
	{"VAR a : ARRAY[2..4] OF INT; i : INT; END_VAR a[i / 0] := a[i];", []int64{0, 0, 0, 1}, []int64{0, 0, 0, 1}, api.FaultZero, 1},
	{"VAR a : ARRAY[2..4] OF INT; i : INT; END_VAR a[3] := a[1];", nil, []int64{0, 0, 0, 0}, api.FaultIndex, 1},
	{"VAR a : ARRAY[2..4] OF INT; i : INT; END_VAR a[5] := 1 / i;", nil, []int64{0, 0, 0, 0}, api.FaultIndex, 1},
	{"VAR a : ARRAY[-1..0] OF INT; u : UDINT; END_VAR a[-1] := 1; a[u] := 2;", []int64{0, 0, -1}, []int64{1, 0, 4294967295}, api.FaultIndex, 2},
	{"VAR a : ARRAY[0..2] OF USINT; END_VAR a[a[a[0]]] := a[a[1]] + 250;", []int64{1, 2, 9}, []int64{1, 2, 3}, 0, 1},
	{"VAR q : pair; r : pair; END_VAR r.x := q.x * 2; r.f := r.x > q.x; q.x := 9;", []int64{2, 0}, []int64{9, 0, 4, 1}, 0, 3},

	{"VAR x : INT; y : INT; END_VAR IF x = 1 THEN y := 1; ELSIF x = 2 THEN y := 2; ELSE y := 3; END_IF;", []int64{1}, []int64{1, 1}, 0, 2},
	{"VAR x : INT; y : INT; END_VAR IF x = 1 THEN y := 1; ELSIF x = 2 THEN y := 2; ELSE y := 3; END_IF;", []int64{2}, []int64{2, 2}, 0, 2},
	{"VAR x : INT; y : INT; END_VAR IF x = 1 THEN y := 1; ELSIF x = 2 THEN y := 2; ELSE y := 3; END_IF;", []int64{5}, []int64{5, 3}, 0, 2},
	{"VAR x : INT; y : INT; END_VAR IF NOT (x = 0) THEN y := 1; ELSIF NOT NOT (x = 2) THEN y := 2; END_IF; y := y - 1;", nil, []int64{0, -1}, 0, 2},
	{"VAR x : INT; y : INT; END_VAR IF x = 0 THEN IF y = 0 THEN y := 1; END_IF; x := 9; ELSIF 1 / x = 0 THEN END_IF;", nil, []int64{9, 1}, 0, 4},
	{"VAR x : INT; y : INT; END_VAR IF x = 1 THEN ELSIF 1 / x = 0 THEN ELSE y := 1; END_IF;", nil, []int64{0, 0}, api.FaultZero, 1},
	{"VAR x : INT; END_VAR IF x > 0 THEN RETURN; END_IF; x := 9;", []int64{5}, []int64{5}, 0, 2},

	{"VAR x : INT; y : INT; END_VAR CASE x OF 1, 5: y := 1; -3..0: y := 2; ELSE y := 3; END_CASE;", []int64{5}, []int64{5, 1}, 0, 2},
	{"VAR x : INT; y : INT; END_VAR CASE x OF 1, 5: y := 1; -3..0: y := 2; ELSE y := 3; END_CASE;", []int64{-3}, []int64{-3, 2}, 0, 2},
	{"VAR x : INT; y : INT; END_VAR CASE x OF 1, 5: y := 1; -3..0: y := 2; ELSE y := 3; END_CASE;", []int64{2}, []int64{2, 3}, 0, 2},
	{"VAR x : INT; y : INT; END_VAR CASE x + 1 OF 0..9: y := 1; 5..20: y := 2; END_CASE; x := y;", []int64{7}, []int64{1, 1}, 0, 3},
	{"VAR x : INT; y : INT; END_VAR CASE x OF 5..20: CASE y OF 0: y := 2; END_CASE; x := 5; 0..9: y := 1; END_CASE;", []int64{7}, []int64{5, 2}, 0, 4},
	{"VAR x : INT; END_VAR CASE 1 / x OF 1: x := 1; ELSE x := 2; END_CASE;", nil, []int64{0}, api.FaultZero, 1},
	{"VAR x : INT; END_VAR CASE x OF 0: RETURN; END_CASE; x := 2;", nil, []int64{0}, 0, 2},

	{"VAR i : INT; s : INT; END_VAR FOR i := 1 TO 4 DO s := s + i; END_FOR;", nil, []int64{5, 10}, 0, 10},
	{"VAR i : INT; s : INT; END_VAR FOR i := 5 TO 1 BY -2 DO s := s + i; END_FOR;", nil, []int64{-1, 9}, 0, 8},
	{"VAR i : INT; s : INT; END_VAR FOR i := i + 2 TO i + 5 BY i + 1 DO END_FOR;", []int64{1}, []int64{7, 0}, 0, 4},
	{"VAR i : INT; s : INT; END_VAR FOR i := 9 TO 0 BY s DO s := 1; END_FOR;", []int64{0, -4}, []int64{-3, 1}, 0, 8},
	{"VAR i : SINT; s : INT; END_VAR FOR i := 126 TO 127 DO s := s + 1; END_FOR; s := s * 10;", nil, []int64{127, 20}, 0, 6},
	{"VAR i : USINT; n : USINT; END_VAR FOR i := n TO n + 56 BY n DO n := 1; END_FOR;", []int64{0, 200}, []int64{200, 200}, 0, 2},
	{"VAR i : INT; END_VAR FOR i := 3 TO 1 / i DO END_FOR;", nil, []int64{0}, api.FaultZero, 1},
	{"VAR x : INT; END_VAR WHILE x < 3 DO x := x + 1; END_WHILE;", nil, []int64{3}, 0, 8},
	{"VAR x : INT; END_VAR REPEAT x := x + 1; UNTIL x >= 3 END_REPEAT;", []int64{7}, []int64{8}, 0, 3},
	{"VAR x : INT; y : INT; END_VAR WHILE TRUE DO IF x = 2 THEN EXIT; END_IF; x := x + 1; END_WHILE; y := 9;", nil, []int64{2, 9}, 0, 11},
	{"VAR x : INT; y : INT; END_VAR FOR x := 1 TO 3 DO CASE x OF 2: EXIT; END_CASE; WHILE TRUE DO y := y + 1; EXIT; END_WHILE; END_FOR; y := -y;", nil, []int64{2, -1}, 0, 11},
	{"VAR x : INT; y : INT; END_VAR FOR x := 1 TO 3 DO FOR y := 1 TO 3 BY x DO IF y = 2 THEN RETURN; END_IF; END_FOR; END_FOR;", nil, []int64{1, 2}, 0, 8},

	{"VAR c : CTU; x : INT; END_VAR c(CU := TRUE, PV := 1); x := c.CV;", nil, []int64{1, 0, 1, 1, 1, 1, 0, 0, 1}, 0, 2},
	{"VAR c : CTU; END_VAR c(PV := c.PV + 1, CU := c.PV = 3);", []int64{0, 0, 2}, []int64{1, 0, 3, 0, 1, 1, 0, 0}, 0, 1},
	{"VAR x : INT; c : CTD; END_VAR c(PV := 5, LD := 1 / x = 0, CD := TRUE);", []int64{0, 0, 0, 7, 0, 8}, []int64{0, 0, 0, 5, 0, 8, 0, 0, 0}, api.FaultZero, 1},
	{"VAR a : R_TRIG; b : R_TRIG; END_VAR a(CLK := TRUE); b(CLK := a.Q);", nil, []int64{1, 1, 1, 0, 0, 1, 1, 1, 0, 0}, 0, 2},
}

// P22.1, P22.2: the code of small programs does what they say.
func TestLives(t *testing.T) {
	for _, x := range lives {
		c, _ := compiled(t, x.text)
		cells, fault, steps := machine(t, c).Scan(x.cells, 0, 99)
		if !slices.Equal(cells, x.want) || fault != x.fault || steps != x.steps {
			t.Errorf("P22.2: %s: %v, %d, %d; want %v, %d, %d:\n%s", x.text, cells, fault, steps, x.want, x.fault, x.steps, code.Text(c))
		}
	}
}

// same fails, unless a scan of the code is one of the program; it tells the
// cells behind it, its fault, and its steps.
func same(t *testing.T, v *vm.Vm, p api.Prog, text string, cells []int64, now int64, most int) ([]int64, int, int) {
	t.Helper()
	want, fault, steps := sem.Scan(p, cells, now, most)
	got, f, n := v.Scan(cells, now, most)
	if !slices.Equal(got, want) || f != fault || n != steps {
		t.Fatalf("P22.2: %s\nof %v at %d, %d steps: %v, %d, %d; want %v, %d, %d", text, cells, now, most, got, f, n, want, fault, steps)
	}
	return got, fault, steps
}

// P22.2: whatever the number of steps that may be done.
func TestEachStep(t *testing.T) {
	for _, x := range lives {
		c, p := compiled(t, x.text)
		v := machine(t, c)
		for _, most := range []int{-1 << 62, -1, x.steps + 1, x.steps + 2, 1 << 62} {
			same(t, v, p, x.text, x.cells, 0, most)
		}
		for most := range x.steps + 1 {
			_, fault, steps := same(t, v, p, x.text, x.cells, 0, most)
			if most < x.steps && (fault != api.FaultSteps || steps != most) {
				t.Errorf("P22.2: %s: %d, %d of %d steps", x.text, fault, steps, most)
			}
		}
	}
}

// P22.2: cells that are missing, too many, or of no kind's range.
func TestCells(t *testing.T) {
	const text = "VAR b : BOOL; s : SINT; u : USINT; a : ARRAY[0..1] OF UINT; t : TIME; c : CTU; END_VAR b := NOT b; s := s + 1; u := u - 1; a[1] := a[0]; t := -t; c(CU := b);"
	c, p := compiled(t, text)
	v := machine(t, c)
	for _, n := range []int64{0, 1, -1, 2, 127, 128, 255, 256, 40000, -1 << 31, 1 << 31, 1<<32 + 1, -1 << 63, 1<<63 - 1} {
		given := slices.Repeat([]int64{n}, 20)
		for many := range given {
			same(t, v, p, text, given[:many], n, 99)
		}
	}
}

// P22.2: scan by scan, with the clock, also where it wraps round.
func TestClock(t *testing.T) {
	const text = "VAR n : TON; f : TOF; p : TP; x : INT; END_VAR x := x + 1; n(IN := x MOD 7 > 1, PT := T#20ms); f(IN := n.Q, PT := T#15ms); p(IN := f.Q, PT := T#11ms);"
	c, p := compiled(t, text)
	v := machine(t, c)
	for _, begin := range []int64{0, -50, 1<<31 - 60, 1<<32 - 60, 1 << 40, -1 << 63, 1<<63 - 300} {
		var cells []int64
		rose := 0
		for k := range int64(40) {
			cells, _, _ = same(t, v, p, text, cells, begin+5*k, 99)
			rose += int(cells[2] + cells[9] + cells[16]) // Q of each
		}
		if rose < 20 {
			t.Errorf("P22.2: from %d on: the timers told Q but %d times", begin, rose)
		}
	}
}

// P22.2, P22.3: a part that hangs on nothing is what it is with its constants
// in cells.
func TestConstants(t *testing.T) {
	for _, x := range []struct{ constant, variable string }{
		{"x := 2 + 3 * 4;", "x := n2 + n3 * 4;"},
		{"x := 1 / 0;", "x := 1 / n0;"},
		{"x := 7 MOD 0;", "x := 7 MOD n0;"},
		{"x := 0 * (1 / 0);", "x := n0 * (1 / n0);"},
		{"x := -32768 / -1;", "x := nmin / -1;"},
		{"x := ABS(-32768);", "x := ABS(nmin);"},
		{"x := 30000 + 30000;", "x := n3 * 10000 + 30000;"},
		{"x := SEL(TRUE, 1 / 0, 2);", "x := SEL(yes, 1 / n0, 2);"},
		{"x := a[2] + a[0];", "x := a[n2] + a[n0];"},
		{"x := a[3];", "x := a[n3];"},
		{"x := a[-1];", "x := a[n0 - 1];"},
		{"a[2] := 1;", "a[n2] := 1;"},
		{"a[3] := 1;", "a[n3] := 1;"},
		{"a[3] := 1 / 0;", "a[n3] := 1 / n0;"},
		{"IF TRUE THEN x := 1; ELSE x := 2; END_IF;", "IF yes THEN x := 1; ELSE x := 2; END_IF;"},
		{"IF FALSE THEN x := 1; ELSE x := 2; END_IF;", "IF no THEN x := 1; ELSE x := 2; END_IF;"},
		{"IF NOT TRUE THEN x := 1; ELSIF NOT FALSE THEN x := 2; END_IF;", "IF NOT yes THEN x := 1; ELSIF NOT no THEN x := 2; END_IF;"},
		{"IF NOT NOT TRUE THEN x := 1; ELSIF 1 / 0 = 0 THEN x := 2; END_IF;", "IF NOT NOT yes THEN x := 1; ELSIF 1 / n0 = 0 THEN x := 2; END_IF;"},
		{"IF TRUE OR 1 / 0 = 1 THEN x := 1; END_IF;", "IF yes OR 1 / n0 = 1 THEN x := 1; END_IF;"},
		{"IF FALSE AND 1 / 0 = 1 THEN x := 1; END_IF;", "IF no AND 1 / n0 = 1 THEN x := 1; END_IF;"},
		{"WHILE FALSE DO x := 1; END_WHILE;", "WHILE no DO x := 1; END_WHILE;"},
		{"WHILE TRUE DO x := x + 1; IF x > 5 THEN EXIT; END_IF; END_WHILE;", "WHILE yes DO x := x + 1; IF x > 5 THEN EXIT; END_IF; END_WHILE;"},
		{"WHILE TRUE DO x := x + 1; END_WHILE;", "WHILE yes DO x := x + 1; END_WHILE;"},
		{"REPEAT x := x + 1; UNTIL TRUE END_REPEAT;", "REPEAT x := x + 1; UNTIL yes END_REPEAT;"},
		{"REPEAT x := x + 1; UNTIL NOT TRUE END_REPEAT;", "REPEAT x := x + 1; UNTIL NOT yes END_REPEAT;"},
		{"FOR x := 1 TO 5 BY 2 DO END_FOR;", "FOR x := 1 TO 5 BY n2 DO END_FOR;"},
		{"FOR x := 1 TO 5 BY 0 DO IF x = 1 THEN x := 5; ELSE x := 6; END_IF; END_FOR;", "FOR x := 1 TO 5 BY n0 DO IF x = 1 THEN x := 5; ELSE x := 6; END_IF; END_FOR;"},
		{"FOR x := 5 TO 1 BY -2 DO END_FOR;", "FOR x := 5 TO 1 BY -n2 DO END_FOR;"},
		{"FOR x := 5 TO 1 BY -INT#2 DO END_FOR;", "FOR x := 5 TO 1 BY INT#-2 DO END_FOR;"},
		{"FOR x := 1 TO 5 BY 1 / 0 DO END_FOR;", "FOR x := 1 TO 5 BY 1 / n0 DO END_FOR;"},
		{"FOR x := 32766 TO 32767 DO END_FOR;", "FOR x := 32766 TO 32767 BY n3 - n2 DO END_FOR;"},
		{"FOR x := -32767 TO -32768 BY -1 DO END_FOR;", "FOR x := -32767 TO -32768 BY n2 - n3 DO END_FOR;"},
		{"CASE 2 OF 1..3: x := 1; 2: x := 2; END_CASE;", "CASE n2 OF 1..3: x := 1; 2: x := 2; END_CASE;"},
		{"CASE 1 / 0 OF 0: x := 1; ELSE x := 2; END_CASE;", "CASE 1 / n0 OF 0: x := 1; ELSE x := 2; END_CASE;"},
	} {
		const vars = "VAR n0 : INT; n2 : INT; n3 : INT; nmin : INT; yes : BOOL; no : BOOL; x : INT; a : ARRAY[0..2] OF INT; END_VAR "
		cells := []int64{0, 2, 3, -32768, 1, 0, 0, 5, 6, 7}
		c, p := compiled(t, vars+x.constant+" x := x + 100;")
		d, q := compiled(t, vars+x.variable+" x := x + 100;")
		for most := range 25 {
			got, f, n := same(t, machine(t, c), p, x.constant, cells, 0, most)
			want, fault, steps := same(t, machine(t, d), q, x.variable, cells, 0, most)
			if !slices.Equal(got, want) || f != fault || n != steps {
				t.Errorf("P22.3: %s: %v, %d, %d; want %v, %d, %d", x.constant, got, f, n, want, fault, steps)
			}
		}
	}
}
