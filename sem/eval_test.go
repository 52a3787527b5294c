package sem

import (
	"testing"

	"rung/api"
	"rung/st"
)

func expr(t *testing.T, text string) api.Expr {
	t.Helper()
	e, err := st.Expr(text)
	if err != nil {
		t.Fatalf("%s: %v", text, err)
	}
	return e
}

const evalVars = "VAR i : INT; w : WORD; b : BOOL; l : ARRAY[0..1] OF DINT; z : INT; u : UDINT; t : TIME; q : pair; c : CTU; m : ARRAY[-3..-2] OF SINT; y : BYTE; END_VAR"

var evalCells = []int64{-7, 0x8001, 1, 11, 22, 0, 4294967295, -1500, 8, 1, 1, 0, 3, 1, 4, 0, 0, 0, -128, 127, 0x81}

// P18.2: of each operator and function what it is, or its fault.
func TestEval(t *testing.T) {
	p := program(t, evalVars)
	for _, x := range []struct {
		s     string
		n     int64
		fault int
	}{
		{"5", 5, 0}, {"-5", -5, 0}, {"TRUE", 1, 0}, {"T#-1m", -60000, 0}, {"UDINT#4294967295", 4294967295, 0},
		{"i", -7, 0}, {"w", 0x8001, 0}, {"b", 1, 0}, {"u", 4294967295, 0}, {"t", -1500, 0},
		{"q.x", 8, 0}, {"q.f", 1, 0}, {"c.CU", 1, 0}, {"c.R", 0, 0}, {"c.PV", 3, 0}, {"c.Q", 1, 0}, {"c.CV", 4, 0},

		{"l[0]", 11, 0}, {"l[1]", 22, 0}, {"l[-1]", 0, api.FaultIndex}, {"l[2]", 0, api.FaultIndex}, {"l[i]", 0, api.FaultIndex}, {"l[i + 8]", 22, 0}, {"l[u]", 0, api.FaultIndex}, {"l[-2147483648]", 0, api.FaultIndex}, {"l[l[0] - 10]", 22, 0},
		{"m[-3]", -128, 0}, {"m[-2]", 127, 0}, {"m[-1]", 0, api.FaultIndex}, {"m[-4]", 0, api.FaultIndex}, {"m[INT_TO_SINT(i) + 4]", -128, 0},
		{"l[1 / z]", 0, api.FaultZero}, {"l[l[2]]", 0, api.FaultIndex}, {"l[2] / 0", 0, api.FaultIndex}, {"1 / 0 + l[2]", 0, api.FaultZero},

		{"-i", 7, 0}, {"-INT#-32768", -32768, 0}, {"-t", 1500, 0}, {"-m[-3]", -128, 0}, {"- -i", -7, 0},
		{"NOT w", 0x7FFE, 0}, {"NOT b", 0, 0}, {"NOT NOT b", 1, 0}, {"NOT y", 0x7E, 0}, {"NOT DWORD#0", 4294967295, 0},
		{"i + 3", -4, 0}, {"u + 2", 1, 0}, {"m[-2] + 1", -128, 0}, {"t + T#2s", 500, 0},
		{"i - 3", -10, 0}, {"3 - i", 10, 0}, {"UDINT#0 - u", 1, 0}, {"m[-3] - 1", 127, 0}, {"l[1] - l[0]", 11, 0}, {"T#1s - t", 2500, 0},
		{"i * 3", -21, 0}, {"u * u", 1, 0}, {"m[-3] * m[-3]", 0, 0}, {"INT#300 * INT#300", 24464, 0},
		{"i / 2", -3, 0}, {"i / -2", 3, 0}, {"7 / 2", 3, 0}, {"2 / i", 0, 0}, {"INT#-32768 / -1", -32768, 0}, {"u / 2", 2147483647, 0}, {"1 / 0", 0, api.FaultZero}, {"i / z", 0, api.FaultZero}, {"z / z", 0, api.FaultZero},
		{"i MOD 2", -1, 0}, {"7 MOD -2", 1, 0}, {"i MOD -2", -1, 0}, {"9 MOD i", 2, 0}, {"INT#-32768 MOD -1", 0, 0}, {"u MOD 10", 5, 0}, {"1 MOD (i - i)", 0, api.FaultZero}, {"z MOD z", 0, api.FaultZero},
		{"i < -7", 0, 0}, {"i < -6", 1, 0}, {"-8 < i", 1, 0}, {"i > -7", 0, 0}, {"i > -8", 1, 0}, {"-8 > i", 0, 0}, {"i <= -7", 1, 0}, {"i <= -8", 0, 0}, {"-6 <= i", 0, 0}, {"i >= -7", 1, 0}, {"i >= -6", 0, 0}, {"-6 >= i", 1, 0},
		{"i = -7", 1, 0}, {"i = 7", 0, 0}, {"i <> -7", 0, 0}, {"i <> 7", 1, 0}, {"u > 2147483648", 1, 0}, {"u < 0", 0, 0}, {"t < T#0s", 1, 0}, {"b > FALSE", 1, 0}, {"b <> TRUE", 0, 0}, {"w >= 16#8001", 1, 0}, {"T#1s + T#1ms > T#1s", 1, 0},
		{"w AND 16#FF", 1, 0}, {"w OR 16#10", 0x8011, 0}, {"w XOR 16#8000", 1, 0}, {"w AND 16#FF OR 16#10", 0x11, 0}, {"y XOR 16#FF", 0x7E, 0}, {"b AND FALSE", 0, 0}, {"b AND b", 1, 0}, {"b OR FALSE", 1, 0}, {"b XOR TRUE", 0, 0}, {"b XOR FALSE", 1, 0},

		{"ABS(i)", 7, 0}, {"ABS(-i)", 7, 0}, {"ABS(INT#-32768)", -32768, 0}, {"ABS(INT#-32767)", 32767, 0}, {"ABS(m[-3])", -128, 0}, {"ABS(t)", 1500, 0}, {"ABS(-2147483648)", -2147483648, 0}, {"ABS(0)", 0, 0}, {"ABS(i + 6)", 1, 0}, {"ABS(i + 8)", 1, 0}, {"ABS(z)", 0, 0},
		{"MIN(i, 3)", -7, 0}, {"MIN(i, -9)", -9, 0}, {"MAX(i, 3)", 3, 0}, {"MAX(i, -9)", -7, 0}, {"MIN(u, 1)", 1, 0}, {"MAX(u, 1)", 4294967295, 0}, {"MIN(t, T#1s)", -1500, 0}, {"MAX(t, T#1s)", 1000, 0}, {"MIN(i, i)", -7, 0},
		{"LIMIT(INT#0, i, 5)", 0, 0}, {"LIMIT(INT#-9, i, 5)", -7, 0}, {"LIMIT(INT#-9, i, -8)", -8, 0}, {"LIMIT(INT#9, i, 5)", 5, 0}, {"LIMIT(INT#-7, i, -7)", -7, 0}, {"LIMIT(T#0s, t, T#1s)", 0, 0}, {"LIMIT(1, 7, 5)", 5, 0}, {"LIMIT(9, 7, 5)", 5, 0},
		{"SEL(b, 3, 4)", 4, 0}, {"SEL(NOT b, 3, 4)", 3, 0}, {"SEL(b, FALSE, TRUE)", 1, 0}, {"SEL(b, w, 16#7)", 7, 0}, {"SEL(FALSE, t, T#1s)", -1500, 0},
		{"SHL(w, 1)", 2, 0}, {"SHL(w, 15)", 0x8000, 0}, {"SHL(w, 16)", 0, 0}, {"SHL(w, 65535)", 0, 0}, {"SHR(w, 1)", 0x4000, 0}, {"SHR(w, 15)", 1, 0}, {"SHR(w, 16)", 0, 0}, {"SHR(w, 0)", 0x8001, 0}, {"ROL(w, 1)", 3, 0}, {"ROL(w, 17)", 3, 0}, {"ROR(w, 1)", 0xC000, 0}, {"ROR(w, 4)", 0x1800, 0}, {"SHL(y, 1)", 2, 0}, {"ROR(y, 9)", 0xC0, 0}, {"SHL(DWORD#1, 31)", 2147483648, 0},
		{"INT_TO_UINT(i)", 65529, 0}, {"INT_TO_BOOL(i)", 1, 0}, {"INT_TO_BOOL(z)", 0, 0}, {"WORD_TO_BOOL(w)", 1, 0}, {"WORD_TO_INT(w)", -32767, 0}, {"INT_TO_DWORD(i)", 4294967289, 0}, {"UDINT_TO_TIME(u)", -1, 0}, {"TIME_TO_USINT(t)", 36, 0}, {"BOOL_TO_DINT(b)", 1, 0}, {"BYTE_TO_SINT(y)", -127, 0}, {"SINT_TO_BYTE(m[-3])", 128, 0}, {"INT_TO_INT(i)", -7, 0}, {"UINT_TO_INT(65535)", -1, 0},
	} {
		n, fault, err := Eval(p, expr(t, x.s), 0, evalCells)
		if n != x.n || fault != x.fault || err != nil {
			t.Errorf("P18.2: %s: %d, %d, %v; want %d, %d", x.s, n, fault, err, x.n, x.fault)
		}
	}
}

// P18.2: all operands are reckoned, from the left, whatever hangs on them.
func TestOperands(t *testing.T) {
	p := program(t, evalVars)
	for _, op := range []string{"AND", "OR", "XOR"} {
		for _, value := range []string{"TRUE", "FALSE"} {
			faults(t, p, value+" "+op+" 1 / z = 0", api.FaultZero)
			faults(t, p, "1 / z = 0 "+op+" "+value, api.FaultZero)
		}
	}
	for _, form := range []string{"! + ?", "! - ?", "! * ?", "! / ?", "! MOD ?", "! < ?", "! > ?", "! <= ?", "! >= ?", "! = ?", "! <> ?", "MIN(!, ?)", "MAX(!, ?)", "LIMIT(!, ?, 1)", "LIMIT(!, 1, ?)", "LIMIT(DINT#1, !, ?)", "SEL(b, !, ?)", "SEL(FALSE, !, ?)", "SEL(! = 1, ?, 1)", "l[!] + ?", "-! + ?", "ABS(!) + ?", "DINT_TO_INT(!) + DINT_TO_INT(?)", "SHL(DINT_TO_WORD(!), DINT_TO_UINT(?))", "! + 1 / l[?]"} {
		const zero, index = "(l[0] / 0)", "l[2]"
		faults(t, p, replaced(form, zero, index), api.FaultZero)
		faults(t, p, replaced(form, index, zero), api.FaultIndex)
		faults(t, p, replaced(form, "l[0]", index), api.FaultIndex)
	}
	for _, s := range []string{"SEL(b, 1 / 0, 4)", "SEL(NOT b, 4, 1 / 0)", "SEL(1 / z = 0, 3, 4)", "ABS(1 / 0)", "-(1 / 0)", "INT_TO_DINT(1 / z)", "0 * (1 / 0)", "0 / (1 / z)"} {
		faults(t, p, s, api.FaultZero)
	}
}

// replaced puts a text at the !, another one at the ?.
func replaced(form, first, second string) string {
	s := ""
	for _, c := range form {
		switch c {
		case '!':
			s += first
		case '?':
			s += second
		default:
			s += string(c)
		}
	}
	return s
}

func faults(t *testing.T, p api.Prog, text string, want int) {
	t.Helper()
	if n, fault, err := Eval(p, expr(t, text), 0, evalCells); n != 0 || fault != want || err != nil {
		t.Errorf("P18.2: %s: %d, %d, %v; want %d", text, n, fault, err, want)
	}
}

// P18.2: the kind that is asked for; errors and their places, nothing beside them.
func TestAsked(t *testing.T) {
	p := program(t, evalVars)
	for _, x := range []struct {
		s    string
		want int
		n    int64
	}{
		{"200 + 100", 0, 300}, {"200 + 100", api.KDint, 300}, {"200 + 100", api.KUsint, 44}, {"200 + 100", api.KUint, 300}, {"100 + 100", api.KSint, -56}, {"30000 * 2", api.KInt, -5536}, {"1", api.KBool, 1},
		{"NOT 1", api.KByte, 254}, {"NOT 1", api.KWord, 65534}, {"NOT 1", api.KBool, 0}, {"SHL(1, 8)", api.KByte, 0}, {"SHL(1, 8)", api.KWord, 256}, {"i + 1", api.KInt, -6}, {"i < 1", api.KBool, 1}, {"-128", api.KSint, -128}, {"ABS(-128)", api.KSint, -128}, {"t", api.KTime, -1500},
	} {
		if n, fault, err := Eval(p, expr(t, x.s), x.want, evalCells); n != x.n || fault != 0 || err != nil {
			t.Errorf("P18.2: %s, asked for %d: %d, %d, %v; want %d", x.s, x.want, n, fault, err, x.n)
		}
	}
	for _, x := range []struct {
		s    string
		want int
		at   int
		err  api.Errno
	}{
		{"i + b", 0, 4, api.ErrKind}, {"1 / 0 + b", 0, 8, api.ErrKind}, {"v", 0, 0, api.ErrName}, {"q.z", 0, 0, api.ErrName}, {"q", 0, 0, api.ErrKind}, {"l", 0, 0, api.ErrKind}, {"c", 0, 0, api.ErrKind}, {"i[0]", 0, 0, api.ErrKind}, {"l[b]", 0, 2, api.ErrKind},
		{"i + 40000", 0, 4, api.ErrConst}, {"200", api.KSint, 0, api.ErrConst}, {"2", api.KBool, 0, api.ErrConst}, {"1", api.KTime, 0, api.ErrKind}, {"i", api.KDint, 0, api.ErrKind}, {"i < 1", api.KInt, 2, api.ErrKind},
		{"i", 99, 0, api.ErrKind}, {"i", -1, 0, api.ErrKind}, {"i", api.KArray, 0, api.ErrKind}, {"FOO(i)", 0, 0, api.ErrCall}, {"ABS(i, i)", 0, 0, api.ErrCall}, {"ABS(w)", 0, 4, api.ErrKind}, {"SHL(i, 1)", 0, 4, api.ErrKind}, {"SEL(i, 1, 2)", 0, 4, api.ErrKind},
	} {
		if n, fault, err := Eval(p, expr(t, x.s), x.want, evalCells); n != 0 || fault != 0 || !wrongAt(err, x.at, x.err) {
			t.Errorf("P18.2: %s, asked for %d: %d, %d, %v; want %v at %d", x.s, x.want, n, fault, err, x.err, x.at)
		}
	}
	// The program's own error stands ahead of the expression's.
	p = program(t, "VAR x : INT; END_VAR x := y;")
	if n, fault, err := Eval(p, expr(t, "v"), 0, nil); n != 0 || fault != 0 || !wrongAt(err, len(head+"VAR x : INT; END_VAR x := "), api.ErrName) {
		t.Errorf("P18.2: %d, %d, %v", n, fault, err)
	}
}
